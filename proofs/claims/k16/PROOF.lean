import PyProof.Rows.All
import Wide.All
import OpenK.AllK
import Wide.FinOn
import KE.KOpsOwn
import KE.KCallOwn
import PyProof.InstNe
import HandS.ForMost
import HandS.IsInst
import HandS.Property
import HandS.FStr
import HandS.WideBits
import HandS.Zip
import HandS.TupAny
import HandS.RaiseMore
import HandS.Defaults
import HandS.SlotsOwn
import KE.KFmtOwn
import PyProof.FactsAll.object_2
import HandS.Walk
import HandS.NoneIn
import HandS.Style
import HandS.Finally
import HandS.DictTup
import HandS.DictComp
import HandS.Keys
import PyProof.ReprRoads
import PyProof.Rows.NestShow
import HandS.ExcInit
import HandS.ExcField
import HandS.WordsExc
import HandS.ExcOwn
import HandS.TryMany
import HandS.EndTab
import KE.KNestM
import PyProof.StrLawsRepr
import HandS.MakeKwOnly
import OpenK.KMeth
import KE.KExcInit
import PyProof.ExcBaseAll.LookupError
import PyProof.ExcBaseAll.RuntimeError
import PyProof.ExcBaseAll.ArithmeticError
import KE.SortKeyHeap
import PyProof.ListCopy
import KE.KSortKey
import HandS.Star
import KE.KRevSl
import HandS.OwnEq
import HandS.ClsMeth
import HandS.CallLocal
import HandS.TupMul
import PyProof.InstStoreFacts
import PySem.Challenge.RW_stitchsizes_k16_whole_books_and_words_tu
set_option Elab.async false
set_option linter.all false
set_option maxRecDepth 100000
set_option maxHeartbeats 4000000
namespace L2
open PySem PySem.Spec PyProof.Rows
section
variable {X : Cx} {CX : CXT} {pins : List (Addr × Obj)} {σ : St} {H : Hp} {s : Shared} {a C dx g : Addr} {fs : List (Str × V)} {n : Nat} {sp : Sp} {E : XK} {fd : FuncData} {ps : List Str}

/-- a def of a class runs, called by an operation of the machine's own at A -/
theorem run_under {A : Around} {Q : VK} {us : List Value} {ws : List V} (F : FnOk X.prog X.w X.K X.mg X.base CX n g fd ps sp) (hb : Binds X.K fd ps []) (hr : Room n A)
    (e0 : Env0 X.prog X.w X.K X.mg X.base A X.stack s H) (hx : Passes CX X E) (I : Inv X pins σ H s) (r : Vals ws us) (h : sp ws H Q E) :
    wpAny (model X.prog X.w) A (call (.ref g) us) (EP X pins σ Q) X.xe s := by
  have hl : (us ++ []).length = ps.length := by
    rw [List.append_nil, ← F.len _ _ _ _ h, r.length]
  refine wpAny_call (codeAny_mono (F.run A X.stack s H ⟨us, []⟩ (us ++ []) ws Q E hr e0 (hb _ us I.kIn hl) (by rw [List.append_nil]; exact r) h) fun r' s' hq => ?_)
  cases r' with
  | error e => exact hx pins σ H s e s' I hq
  | ok fl =>
    cases fl with
    | ret u =>
      first
        | exact I.after hq
        | exact ⟨rfl, I.after hq⟩
    | next => exact False.elim hq
    | brk => exact False.elim hq
    | cont => exact False.elim hq

/-- what a dunder def hands back is no NotImplemented -/
theorem cmpback' {P : Value → Shared → Prop} {z : V} {v : Value} {s' : Shared} (r : RelV z v) (h : P v s') : PySem.W.CmpBack P v s' := SlX.cmpback r h

/-- a value's type, looked up -/
theorem looks_ty {x : V} {u t : Value} (I : Inv X pins σ H s) (rx : RelV x u) (ty : TyX X.K H x t) : PySem.W.Looks (model X.prog X.w) s.heap (typeOf u) t := by
  obtain ⟨P, k, hp, _⟩ := kit_of I rx ty
  exact k.ty _ _ I.kIn hp

/-- x op y, x an instance of the class at C whose def for op is at g -/
def rCmpOwn (K : PySem.W.Frag) (C : Addr) (sp : Sp) (E : XK) : R2 := fun x y H Q => ∃ a dx fs t, x = .ref a ∧ H a = some (.ins C dx fs) ∧ TyX K H y t ∧ PySem.W.notFirst K C t = true ∧ sp [x, y] H Q E
theorem op_cmpOwn {op : CmpOp} (hop : ∀ a b, compareOp op a b = richCompare op a b) (hs : PySem.W.findIn X.K (.ref C) (cmpInfo op).2.1 = some (some (.ref g))) (hf : PySem.W.isFn X.K (.ref g) = true)
    (F : FnOk X.prog X.w X.K X.mg X.base CX n g fd ps sp) (hb : Binds X.K fd ps []) (hr : Room n X.A) (hx : Passes CX X E) : OpR X (compareOp op) (rCmpOwn X.K C sp E) := by
  intro pins s σ H x y v u Q I rx ry h
  obtain ⟨a, dx, fs, t, rfl, ha, ht, hn, q⟩ := h
  cases (show v = Value.ref a from rx)
  obtain ⟨mA, O, _, _, _, _⟩ := ins_get I.hok ha
  obtain ⟨od, J, _⟩ := O.look
  obtain ⟨m, hF⟩ := I.fr
  rw [hop]
  refine PySem.W.cmp_K (op := op) (tb := t) hr.units0 hF I.ok.mod.kin J (looks_ty I ry ht) hn hs hf ?_
  refine wpAny_mono (run_fn (us := [.ref a, u]) (vs := [.ref a, y]) (dvs := []) F hr hb .nil hx I (.cons rfl (.cons ry .nil)) (by simpa using q)) (fun w s' z => ?_) fun _ _ x => x
  obtain ⟨z', H', I', rz, qz⟩ := z
  exact cmpback' rz ⟨z', H', I', rz, qz⟩
theorem op_eqOwn (hs : PySem.W.findIn X.K (.ref C) "__eq__" = some (some (.ref g))) (hf : PySem.W.isFn X.K (.ref g) = true)
    (F : FnOk X.prog X.w X.K X.mg X.base CX n g fd ps sp) (hb : Binds X.K fd ps []) (hr : Room n X.A) (hx : Passes CX X E) : OpR X (compareOp .Eq) (rCmpOwn X.K C sp E) :=
  op_cmpOwn (fun _ _ => rfl) hs hf F hb hr hx

/-- -x, x an instance -/
def rUnOwn (C : Addr) (sp : Sp) (E : XK) : V → Hp → VK → Prop := fun x H Q => ∃ a dx fs, x = .ref a ∧ H a = some (.ins C dx fs) ∧ sp [x] H Q E
theorem un_negOwn (hs : PySem.W.findIn X.K (.ref C) "__neg__" = some (some (.ref g))) (hf : PySem.W.isFn X.K (.ref g) = true)
    (F : FnOk X.prog X.w X.K X.mg X.base CX n g fd ps sp) (hb : Binds X.K fd ps []) (hr : Room n X.A) (hx : Passes CX X E) : UnR X (unaryOp .USub) (rUnOwn C sp E) := by
  intro pins s σ H x v Q I rx h
  obtain ⟨a, dx, fs, rfl, ha, q⟩ := h
  cases (show v = Value.ref a from rx)
  obtain ⟨mA, O, _, _, _, _⟩ := ins_get I.hok ha
  obtain ⟨od, J, _⟩ := O.look
  obtain ⟨m, hF⟩ := I.fr
  refine PySem.W.ksp_neg hF I.ok.mod.kin J hs hf ?_
  exact run_fn (us := [.ref a]) (vs := [.ref a]) (dvs := []) F hr hb .nil hx I (.cons rfl .nil) (by simpa using q)

/-- x op y, x an instance of the class at C whose def for op is at g; y an instance of the same class -/
def rBinSame (C : Addr) (sp : Sp) (E : XK) : R2 := fun x y H Q => ∃ a dx fs b dy gs, x = .ref a ∧ y = .ref b ∧ H a = some (.ins C dx fs) ∧ H b = some (.ins C dy gs) ∧ sp [x, y] H Q E
theorem op_binSame {op : Operator} (hc : PySem.W.selfFirst X.K C = true) (hs : PySem.W.findIn X.K (.ref C) (PySem.dunder op.info.2) = some (some (.ref g))) (hf : PySem.W.isFn X.K (.ref g) = true)
    (F : FnOk X.prog X.w X.K X.mg X.base CX n g fd ps sp) (hb : Binds X.K fd ps []) (hr : Room n X.A) (hx : Passes CX X E) : OpR X (binaryOp op) (rBinSame C sp E) := by
  intro pins s σ H x y v u Q I rx ry h
  obtain ⟨a, dx, fs, b, dy, gs, rfl, rfl, ha, hbb, q⟩ := h
  cases (show v = Value.ref a from rx)
  cases (show u = Value.ref b from ry)
  obtain ⟨mA, O, _, _, _, _⟩ := ins_get I.hok ha
  obtain ⟨od, J, _⟩ := O.look
  obtain ⟨mB, O', _, _, _, _⟩ := ins_get I.hok hbb
  obtain ⟨od', J', _⟩ := O'.look
  obtain ⟨m, hF⟩ := I.fr
  refine PySem.W.binop_K (op := op) hF I.ok.mod.kin J J'.type hc hs hf ?_
  refine wpAny_mono (run_fn (us := [.ref a, .ref b]) (vs := [.ref a, .ref b]) (dvs := []) F hr hb .nil hx I (.cons rfl (.cons rfl .nil)) (by simpa using q)) (fun w s' z => ?_) fun _ _ x => x
  obtain ⟨z', H', I', rz, qz⟩ := z
  exact cmpback' rz ⟨z', H', I', rz, qz⟩
/-- x op n, n an int -/
def rBinInt (C : Addr) (sp : Sp) (E : XK) : R2 := fun x y H Q => ∃ a dx fs i, x = .ref a ∧ y = .int i ∧ H a = some (.ins C dx fs) ∧ sp [x, y] H Q E
theorem op_binInt {op : Operator} {fo ro rc : Option Value} (hc : PySem.W.selfFirst X.K C = true) (hs : PySem.W.findIn X.K (.ref C) (PySem.dunder op.info.2) = some (some (.ref g))) (hf : PySem.W.isFn X.K (.ref g) = true)
    (hR : PySem.W.findIn X.K (.ref C) (dunderR op.info.2) = some rc) (hp : rc = none ∨ ∃ g : Addr, rc = some (.ref g))
    (h1 : PySem.W.findIn X.K (.type "int") (PySem.dunder op.info.2) = some fo) (h2 : PySem.W.findIn X.K (.type "int") (dunderR op.info.2) = some ro) (hsub : PySem.W.subIn X.K (.type "int") (.ref C) = some false)
    (F : FnOk X.prog X.w X.K X.mg X.base CX n g fd ps sp) (hb : Binds X.K fd ps []) (hr : Room n X.A) (hx : Passes CX X E) : OpR X (binaryOp op) (rBinInt C sp E) := by
  intro pins s σ H x y v u Q I rx ry h
  obtain ⟨a, dx, fs, i, rfl, rfl, ha, q⟩ := h
  cases (show v = Value.ref a from rx)
  obtain ⟨t, e⟩ := (show ∃ t, u = Value.int i t from ry)
  cases e
  obtain ⟨mA, O, _, _, _, _⟩ := ins_get I.hok ha
  obtain ⟨od, J, _⟩ := O.look
  obtain ⟨m, hF⟩ := I.fr
  refine PySem.W.ksp_binT (op := op) (T := "int") hF I.ok.mod.kin J rfl hc hs hf hR hp h1 h2 hsub ?_
  refine wpAny_mono (run_fn (us := [.ref a, .int i t]) (vs := [.ref a, .int i]) (dvs := []) F hr hb .nil hx I (.cons rfl (.cons ⟨t, rfl⟩ .nil)) (by simpa using q)) (fun w s' z => ?_) fun _ _ x => x
  obtain ⟨z', H', I', rz, qz⟩ := z
  exact cmpback' rz ⟨z', H', I', rz, qz⟩

/-- repr(x), x an instance whose class has its own __repr__ -/
def rReprOwn (C : Addr) (sp : Sp) (E : XK) : List V → Hp → VK → Prop := fun xs H Q => ∃ a dx fs, xs = [V.ref a] ∧ H a = some (.ins C dx fs) ∧ sp [.ref a] H (fun z H' => ∃ y, z = .str y ∧ Q z H') E
theorem strback {P : Value → Shared → Prop} {y : Str} {v : Value} {s' : Shared} (r : RelV (.str y) v) (h : P v s') : PySem.W.StrBack P v s' := by
  obtain ⟨t, e⟩ := (show ∃ t, v = Value.str y t from r)
  cases e
  exact h
theorem call_reprOwn (hs : PySem.W.findIn X.K (.ref C) "__repr__" = some (some (.ref g))) (hf : PySem.W.isFn X.K (.ref g) = true)
    (F : FnOk X.prog X.w X.K X.mg X.base CX n g fd ps sp) (hb : Binds X.K fd ps []) (hr : Room (n + 1) X.A) (hx : Passes CX X E) : CallR X (.builtin "repr") (rReprOwn C sp E) := by
  intro pins s σ H xs us Q I r h
  obtain ⟨a, dx, fs, rfl, ha, q⟩ := h
  obtain ⟨u, rfl, ru⟩ := r.one
  cases (show u = Value.ref a from ru)
  obtain ⟨mA, O, _, _, _, _⟩ := ins_get I.hok ha
  obtain ⟨od, J, _⟩ := O.look
  obtain ⟨m, hF⟩ := I.fr
  refine PySem.W.repr_K hr.in1.units0 hF I.ok.mod.kin J hs hf ?_
  refine wpAny_mono (run_under (us := [.ref a]) (ws := [.ref a]) F hb hr.in1 I.env0.in1 hx I (.cons rfl .nil) q) (fun w s' z => ?_) fun _ _ x => x
  obtain ⟨z', H', I', rz, y, ey, qz⟩ := z
  subst ey
  exact strback rz ⟨.str y, H', I', rz, qz⟩
theorem call_strOwn (hs : PySem.W.findIn X.K (.ref C) "__str__" = some (some (.ref g))) (hf : PySem.W.isFn X.K (.ref g) = true)
    (F : FnOk X.prog X.w X.K X.mg X.base CX n g fd ps sp) (hb : Binds X.K fd ps []) (hr : Room (n + 2) X.A) (hx : Passes CX X E) : CallR X (.type "str") (rReprOwn C sp E) := by
  intro pins s σ H xs us Q I r h
  obtain ⟨a, dx, fs, rfl, ha, q⟩ := h
  obtain ⟨u, rfl, ru⟩ := r.one
  cases (show u = Value.ref a from ru)
  obtain ⟨mA, O, _, _, _, _⟩ := ins_get I.hok ha
  obtain ⟨od, J, _⟩ := O.look
  have hr2 : Room n X.A.in1.in1 := (show Room (n + 1) X.A.in1 from Room.in1 hr).in1
  refine PySem.W.kso_call hr2.units0 I.kIn J hs hf ?_
  refine wpAny_mono (run_under (us := [.ref a]) (ws := [.ref a]) F hb hr2 I.env0.in1.in1 hx I (.cons rfl .nil) q) (fun w s' z => ?_) fun _ _ x => x
  obtain ⟨z', H', I', rz, y, ey, qz⟩ := z
  subst ey
  exact strback rz ⟨.str y, H', I', rz, qz⟩
section
open PySem.W
variable {prog : Program} {w : World} {M : Model} {A : Around} {E : Value → Shared → Prop} {s : Shared} {K : Frag} {x C f : Addr} {ox : Obj} {od : Option Obj} {name : Str}
theorem ifBound_B {id : String} {args : List Value} {Q : Option Value → Shared → Prop} (X : K.In s.heap) (I : InstAt s.heap x ox C od) (hs : findIn K (.ref C) name = some (some (.builtin id)))
    (hb : ∀ self, bindSpecial (.builtin id) self = pure (.builtin id, [self])) (h : wpAny M A (call (.builtin id) (.ref x :: args)) (fun v => Q (some v)) E s) : wpAny M A (callSpecialIfBound? (.ref x) name args) Q E s := by
  simp only [callSpecialIfBound?, bindSpecialIfBound?]
  refine wpAny_holding (wpAny_bind (wpAny_bind (wpAny_bind (I.type.here ((looks_findIn X hs).here ?_)))))
  refine wpAny_bind (wpAny_askSetting (wpAny_ite ?_))
  have fin : wpAny M A (call (.builtin id) ([.ref x] ++ args) >>= fun v => pure (some v)) Q E s := wpAny_bind (wpAny_mono h (fun v s' h' => wpAny_pure h') fun _ _ h' => h')
  split
  · exact wpAny_bind ((Looks.of_pure (hb _)).here (wpAny_pure (by exact fin)))
  · exact wpAny_tryCatch (wpAny_bind ((Looks.of_pure (hb _)).here (wpAny_pure (by exact fin))))
/-- object.__ne__ asks the own __eq__ -/
theorem one_K {b : Value} {Q : Value → Shared → Prop} (hu : A.in1.units < cLine) (X : K.In s.heap) (I : InstAt s.heap x ox C od) (hm : mroIn K C (.type "object") = some true)
    (he : findIn K (.ref C) "__eq__" = some (some (.ref f))) (hf : isFn K (.ref f) = true)
    (h : wpAny (model prog w) A.in1 (call (.ref f) [.ref x, b]) (fun v s' => ∃ r, v = .bool r ∧ Q (.bool (!r)) s') E s) : wpAny (model prog w) A (call (.builtin "object.__ne__") [.ref x, b]) Q E s := by
  refine wpAny_call (codeAny_call_builtin PySem.F.slot_object_ne.plain PySem.F.cmpEntry_ne (check_slot (i := "object.__ne__") (owner := "object") (n := "__ne__") (by decide +kernel) (by decide +kernel) (I.type.andThen (looks_mroIn X hm)) (PySem.F.cmpArgs_ne _ _) ?_))
  unfold Builtin.«object.__ne__»
  repeat (first
    | with_reducible refine wpAny_cRoomFor hu ?_
    | (refine wpAny_bind (m := callSpecialIfBound? (.ref x) (Str.ofString "__eq__") [b])
        (ifBound_K X I he hf (wpAny_mono h (fun r s' hr => by
          obtain ⟨b, rfl, hq⟩ := hr
          repeat (first | exact hq | exact wpAny_pure hq | exact wpAny_truthy_bool hq | (refine wpAny_bind (m := truthy (.bool _)) (wpAny_truthy_bool ?_)) | wp_step)) fun _ _ e => e)))
    | wp_step)
theorem ne_own {b tb : Value} {Q : Value → Shared → Prop} (hu : A.in1.units < cLine) (hu0 : A.units < cLine) (X : K.In s.heap) (I : InstAt s.heap x ox C od) (hb : Looks (model prog w) s.heap (typeOf b) tb) (hn : notFirst K C tb = true)
    (hm : mroIn K C (.type "object") = some true) (hne : findIn K (.ref C) "__ne__" = some (some (.builtin "object.__ne__")))
    (he : findIn K (.ref C) "__eq__" = some (some (.ref f))) (hf : isFn K (.ref f) = true)
    (h : wpAny (model prog w) A.in1 (call (.ref f) [.ref x, b]) (fun v s' => ∃ r, v = .bool r ∧ Q (.bool (!r)) s') E s) : wpAny (model prog w) A (richCompare .NotEq (.ref x) b) Q E s := by
  have one : wpAny (model prog w) A (tryCompare (.ref x) (cmpInfo .NotEq).2.1 b) (fun r s' => ∃ v, r = some v ∧ Q v s') E s := by
    unfold tryCompare
    refine wpAny_bind (ifBound_B X I hne PySem.F.slot_object_ne.bind (one_K hu X I hm he hf (wpAny_mono h (fun v s' hv => ?_) fun _ _ e => e)))
    obtain ⟨r, rfl, hq⟩ := hv
    exact ⟨r, rfl, wpAny_pure ⟨_, rfl, hq⟩⟩
  unfold richCompare
  simp only [oneThing_ref]
  refine wpAny_holding (wpAny_bind (wpAny_cRoomFor hu0 ?_))
  refine wpAny_bind (I.type.here (wpAny_bind (hb.here ?_)))
  split
  · rename_i q
    have e : subIn K tb (.ref C) = some false := by
      rcases Bool.or_eq_true_iff.mp hn with e | e
      · rw [beq_iff_eq.mp e] at q; simp at q
      · exact beq_iff_eq.mp e
    refine wpAny_bind ((looks_subIn X e).here ?_)
    simp only [Bool.false_eq_true, if_false]
    refine wpAny_bind (wpAny_mono one (fun r s' z => ?_) fun _ _ e => e)
    obtain ⟨v, rfl, hq⟩ := z
    exact wpAny_pure hq
  · refine wpAny_bind (wpAny_pure ?_)
    simp only [Bool.false_eq_true, if_false]
    refine wpAny_bind (wpAny_mono one (fun r s' z => ?_) fun _ _ e => e)
    obtain ⟨v, rfl, hq⟩ := z
    exact wpAny_pure hq
end
/-- x != y, by the own __eq__ -/
def rNeOwn (K : PySem.W.Frag) (C : Addr) (sp : Sp) (E : XK) : R2 := fun x y H Q => ∃ a dx fs t, x = .ref a ∧ H a = some (.ins C dx fs) ∧ TyX K H y t ∧ PySem.W.notFirst K C t = true ∧ sp [x, y] H (fun z H' => ∃ r, z = .bl r ∧ Q (.bl (!r)) H') E
theorem op_neOwn (hm : PySem.W.mroIn X.K C (.type "object") = some true) (hne : PySem.W.findIn X.K (.ref C) "__ne__" = some (some (.builtin "object.__ne__"))) (hs : PySem.W.findIn X.K (.ref C) "__eq__" = some (some (.ref g))) (hf : PySem.W.isFn X.K (.ref g) = true)
    (F : FnOk X.prog X.w X.K X.mg X.base CX n g fd ps sp) (hb : Binds X.K fd ps []) (hr : Room (n + 1) X.A) (hx : Passes CX X E) : OpR X (compareOp .NotEq) (rNeOwn X.K C sp E) := by
  intro pins s σ H x y v u Q I rx ry h
  obtain ⟨a, dx, fs, t, rfl, ha, ht, hn, q⟩ := h
  cases (show v = Value.ref a from rx)
  obtain ⟨mA, O, _, _, _, _⟩ := ins_get I.hok ha
  obtain ⟨od, J, _⟩ := O.look
  show wpAny _ _ (richCompare .NotEq _ _) _ _ _
  refine ne_own (tb := t) hr.in1.units0 hr.units0 I.kIn J (looks_ty I ry ht) hn hm hne hs hf ?_
  refine wpAny_mono (run_under (us := [.ref a, u]) (ws := [.ref a, y]) F hb hr.in1 I.env0.in1 hx I (.cons rfl (.cons ry .nil)) q) (fun w s' z => ?_) fun _ _ x => x
  obtain ⟨z', H', I', rz, r, ez, qz⟩ := z
  subst ez
  cases (show w = Value.bool r from rz)
  exact ⟨r, rfl, .bl (!r), H', I', rfl, qz⟩
/-- repr of True, False -/
theorem call_repr_bool : CallR X (.builtin "repr") (fun xs H Q => ∃ b, xs = [.bl b] ∧ Q (.str (if b then "True" else "False")) H) := by
  intro pins s σ H xs us Q I r h
  obtain ⟨b, rfl, q⟩ := h
  obtain ⟨u, rfl, ru⟩ := r.one
  cases (show u = Value.bool b from ru)
  exact PySem.P.repr_of_bool ⟨.str _, H, I.tok _, ⟨_, rfl⟩, q⟩
end
end L2

set_option maxHeartbeats 4000000
namespace L2
open PySem PySem.Spec PyProof.Rows
/-! ### a def of the module as it stands behind the top, and what it promises -/
structure FunAt (K : PySem.W.Frag) (mg : Str → Option Value) (x qual : Str) (st : Stmt) : Prop where
  ex : ∃ (f : Addr) (fd : FuncData), mg x = some (.ref f) ∧ Fun K x qual st f fd
structure Has (P : Program) (w : World) (K : PySem.W.Frag) (mg : Str → Option Value) (base : Heap) (x : Str) (k : Nat) (ps : List Str) (sp : Sp) : Prop where
  ex : ∃ (f : Addr) (fd : FuncData), mg x = some (.ref f) ∧ PySem.W.keepIn K (.ref f) = true ∧ Binds K fd ps [] ∧ FnOk P w K mg base CX0 k f fd ps sp
section
variable {P : Program} {w : World} {K : PySem.W.Frag} {mg : Str → Option Value} {base : Heap}
theorem has_of {x qual : Str} {st : Stmt} {N ps : List Str} {k : Nat} {sp : Sp} (F : FunAt K mg x qual st) (S : FnScope N ps (defScope st))
    (hb : ∀ (kV doc pm : Value) (an : Option Addr) (cdv ct : Value) (us : List Value), us.length = ps.length → bindArgs (PySem.W.fnOf x qual (defArgs st) (defBody st) (defScope st) .none kV doc pm an cdv ct) ⟨us, []⟩ = pure (ps.zip us))
    (len : ∀ vs H Q E, sp vs H Q E → vs.length = ps.length)
    (hbody : ∀ (f : Addr) (cdv : Value) (A : Around) (outer : List Env) (s : Shared) (H : Hp) (vs : List V) (Q : VK) (E : XK), Room k (A.deeper (envOfC qual (defScope st) s.heap.objs.size f cdv)) → sp vs H Q E →
      ∃ t, PSs (cxOf CX0 P w K mg base N qual (defScope st) f cdv A outer s H E).nox (defBody st) t ∧ t { nx := fun _ H' => Q .non H', rt := Q } (start N vs) H) : Has P w K mg base x (k + 1) ps sp := by
  obtain ⟨f, fd, hm, F⟩ := F.ex
  exact ⟨f, fd, hm, F.kp, F.binds hb, F.ok S len (hbody f)⟩
theorem Has.mono {x : Str} {j k : Nat} {ps : List Str} {sp : Sp} (h : Has P w K mg base x j ps sp) (hk : j ≤ k) : Has P w K mg base x k ps sp := by
  obtain ⟨f, fd, a, b, c, d⟩ := h.ex
  exact ⟨f, fd, a, b, c, d.mono hk⟩
theorem Has.imp {x : Str} {k : Nat} {ps : List Str} {sp sp' : Sp} (h : Has P w K mg base x k ps sp) (i : ∀ vs H Q E, sp' vs H Q E → sp vs H Q E) : Has P w K mg base x k ps sp' := by
  obtain ⟨f, fd, a, b, c, d⟩ := h.ex
  exact ⟨f, fd, a, b, c, d.imp i⟩
end
section
variable {X : Cx} {x : Str} {k : Nat} {ps : List Str} {sp : Sp} {p pos : Pos} {e : Expr} {es : List Expr} {t : TA}
/-- f(e, ..) -/
theorem pe_has (h : Has X.prog X.w X.K X.mg X.base x k ps sp) (hr : Room k X.A) (ha : PA X (e :: es) t) (hg : Gl X x := by rfl) (hdb : (x == ("__debug__" : Str)) = false := by decide)
    (he : starEach (e :: es) X.env = (false, eval e X.env) :: starEach es X.env := by rfl) (hpl : (backTo pos (starEach es X.env)).any (·.1) = false := by rfl) :
    PE X (.Call (.Name x p) (e :: es) [] pos) (tCall sp [] E0 t) := by
  obtain ⟨f, fd, hm, hk, hb, F⟩ := h.ex
  exact pe_call F hr hg hm hk hb .nil pass0 ha hdb he hpl
end
/-! ### a class's def -/
structure MethAt (K : PySem.W.Frag) (C : Addr) (m qual : Str) (st : Stmt) : Prop where
  ex : ∃ (f : Addr) (fd : FuncData), Meth K C m f ∧ Fun K m qual st f fd
structure HasM (P : Program) (w : World) (K : PySem.W.Frag) (mg : Str → Option Value) (base : Heap) (C : Addr) (m : Str) (k : Nat) (ps : List Str) (sp : Sp) : Prop where
  ex : ∃ (f : Addr) (fd : FuncData), Meth K C m f ∧ Binds K fd ps [] ∧ FnOk P w K mg base CX0 k f fd ps sp
structure PropAt (K : PySem.W.Frag) (C : Addr) (m qual : Str) (st : Stmt) : Prop where
  ex : ∃ (p g : Addr) (fd : FuncData), PropOf K C m p g ∧ Fun K m qual st g fd
structure HasP (P : Program) (w : World) (K : PySem.W.Frag) (mg : Str → Option Value) (base : Heap) (C : Addr) (m : Str) (k : Nat) (sp : Sp) : Prop where
  ex : ∃ (p g : Addr) (fd : FuncData), PropOf K C m p g ∧ Binds K fd ["self"] [] ∧ FnOk P w K mg base CX0 k g fd ["self"] sp
section
variable {P : Program} {w : World} {K : PySem.W.Frag} {mg : Str → Option Value} {base : Heap} {C : Addr}
theorem hasM_of {m qual : Str} {st : Stmt} {N ps : List Str} {k : Nat} {sp : Sp} (F : MethAt K C m qual st) (S : FnScope N ps (defScope st))
    (hb : ∀ (kV doc pm : Value) (an : Option Addr) (cdv ct : Value) (us : List Value), us.length = ps.length → bindArgs (PySem.W.fnOf m qual (defArgs st) (defBody st) (defScope st) .none kV doc pm an cdv ct) ⟨us, []⟩ = pure (ps.zip us))
    (len : ∀ vs H Q E, sp vs H Q E → vs.length = ps.length)
    (hbody : ∀ (f : Addr) (cdv : Value) (A : Around) (outer : List Env) (s : Shared) (H : Hp) (vs : List V) (Q : VK) (E : XK), Room k (A.deeper (envOfC qual (defScope st) s.heap.objs.size f cdv)) → sp vs H Q E →
      ∃ t, PSs (cxOf CX0 P w K mg base N qual (defScope st) f cdv A outer s H E).nox (defBody st) t ∧ t { nx := fun _ H' => Q .non H', rt := Q } (start N vs) H) : HasM P w K mg base C m (k + 1) ps sp := by
  obtain ⟨f, fd, hm, F⟩ := F.ex
  exact ⟨f, fd, hm, F.binds hb, F.ok S len (hbody f)⟩
theorem hasP_of {m qual : Str} {st : Stmt} {N : List Str} {k : Nat} {sp : Sp} (F : PropAt K C m qual st) (S : FnScope N ["self"] (defScope st))
    (hb : ∀ (kV doc pm : Value) (an : Option Addr) (cdv ct : Value) (us : List Value), us.length = (["self"] : List Str).length → bindArgs (PySem.W.fnOf m qual (defArgs st) (defBody st) (defScope st) .none kV doc pm an cdv ct) ⟨us, []⟩ = pure ((["self"] : List Str).zip us))
    (len : ∀ vs H Q E, sp vs H Q E → vs.length = (["self"] : List Str).length)
    (hbody : ∀ (f : Addr) (cdv : Value) (A : Around) (outer : List Env) (s : Shared) (H : Hp) (vs : List V) (Q : VK) (E : XK), Room k (A.deeper (envOfC qual (defScope st) s.heap.objs.size f cdv)) → sp vs H Q E →
      ∃ t, PSs (cxOf CX0 P w K mg base N qual (defScope st) f cdv A outer s H E).nox (defBody st) t ∧ t { nx := fun _ H' => Q .non H', rt := Q } (start N vs) H) : HasP P w K mg base C m (k + 1) sp := by
  obtain ⟨p, g, fd, hm, F⟩ := F.ex
  exact ⟨p, g, fd, hm, F.binds hb, F.ok S len (hbody g)⟩
end
section
variable {X : Cx} {C : Addr} {m : Str} {k : Nat} {ps : List Str} {sp : Sp} {apos pos : Pos} {o e : Expr} {es : List Expr} {ta : TE} {t : TA}
theorem pe_hasP (h : HasP X.prog X.w X.K X.mg X.base C m k sp) (c : Cls X.K C) (hr : Room (k + 1) X.A) (ho : PE X o ta) (hab : attributeBase o m X.env (eval o X.env) = eval o X.env := by rfl) :
    PE X (.Attribute o m pos) (tProp C sp [] E0 ta) := by
  obtain ⟨p, g, fd, hp, hb, F⟩ := h.ex
  exact pe_prop ho c hp F hr hb .nil pass0 hab
end
end L2
namespace L2
open PySem PySem.Spec PyProof.Rows
/-! ### an own class: what isinstance, ==, the arithmetic signs ask -/
structure OwnC (K : PySem.W.Frag) (C : Addr) : Prop where
  cl : Cls K C
  ca : PySem.W.findIn K (.ref C) "__class__" = some (some (.builtin "object.__class__"))
  cn : PySem.W.specialIn K (.builtin "object.__class__") "__get__" = some (some (.builtin "getset_descriptor.__get__"))
  ct : PySem.W.takesIn K (.builtin "object.__class__") = some true
  mo : PySem.W.mroIn K C (.type "object") = some true
  ic : PySem.W.isClsIn K C = true
  tc : PySem.W.typeIn K (.ref C) = some (.type "type")
theorem OwnC.ty {K : PySem.W.Frag} {C : Addr} (o : OwnC K C) {H : Hp} {a dx : Addr} {fs : List (Str × V)} (e : H a = some (.ins C dx fs)) : TyX K H (.ref a) (.ref C) := .base (.ins e o.cl o.ca o.cn o.ct o.mo)
theorem kit_self {K : PySem.W.Frag} {t : Value} : PySem.W.kitOne K t t = some true := by
  unfold PySem.W.kitOne
  rw [if_pos (by simp)]
theorem OwnC.kit {K : PySem.W.Frag} {C : Addr} (o : OwnC K C) {T : String} {b : Bool} (h : PySem.W.subIn K (.type T) (.ref C) = some b) : PySem.W.kitOne K (.type T) (.ref C) = some b := by
  unfold PySem.W.kitOne PySem.W.kitCls
  have e : (Value.type T == Value.ref C) = false := Bool.eq_false_iff.mpr fun q => by cases beq_iff_eq.mp q
  have h1 : (PySem.W.clsIn K C).isSome = true := o.ic
  rw [if_neg (by rw [e]; decide)]
  show (if ((PySem.W.clsIn K C).isSome && PySem.W.typeIn K (.ref C) == some (.type "type")) = true then _ else _) = _
  rw [if_pos (by rw [h1, o.tc]; simp)]
  exact h
theorem notFirst_self {K : PySem.W.Frag} {C : Addr} : PySem.W.notFirst K C (.ref C) = true := by
  unfold PySem.W.notFirst
  simp
theorem notFirst_ty {K : PySem.W.Frag} {C : Addr} {T : String} (h : PySem.W.subIn K (.type T) (.ref C) = some false) : PySem.W.notFirst K C (.type T) = true := by
  unfold PySem.W.notFirst
  rw [h]
  simp
/-! ### a def with defaults -/
structure HasK (P : Program) (w : World) (K : PySem.W.Frag) (mg : Str → Option Value) (base : Heap) (x : Str) (C : Addr) (k : Nat) (ps : List Str) (sp : Sp) (dvs : List V) : Prop where
  ex : ∃ (f : Addr) (fd : FuncData) (ds : List Value), mg x = some (.ref C) ∧ Mk K C f ∧ Binds K fd ps ds ∧ Vals dvs ds ∧ FnOk P w K mg base CX0 k f fd ps sp
/-- a new instance: what __init__ promises of it, told of the call -/
def tNew (R : List V → Hp → VK → Prop) (t : TA) : TE := fun σ H Q => t σ H fun vs H1 => R vs H1 Q
section
variable {X : Cx} {x : Str} {C : Addr} {k : Nat} {ps : List Str} {sp : Sp} {dvs : List V} {p pos : Pos} {e : Expr} {es : List Expr} {t : TA}
theorem PE.imp {e : Expr} {t t' : TE} (h : PE X e t) (i : ∀ σ H Q, t' σ H Q → t σ H Q) : PE X e t' := ⟨fun pins s σ H Q I q => h.run pins s σ H Q I (i σ H Q q)⟩
theorem pe_hasK (h : HasK X.prog X.w X.K X.mg X.base x C k ps sp dvs) (hr : Room (k + 1) X.A) (ha : PA X (e :: es) t) (hg : Gl X x := by rfl) (hdb : (x == ("__debug__" : Str)) = false := by decide)
    (he : starEach (e :: es) X.env = (false, eval e X.env) :: starEach es X.env := by rfl) (hpl : (backTo pos (starEach es X.env)).any (·.1) = false := by rfl) :
    PE X (.Call (.Name x p) (e :: es) [] pos) (tMake C sp dvs E0 t) := by
  obtain ⟨f, fd, ds, hm, M, hb, hd, F⟩ := h.ex
  exact pe_make M F hr hg hm hb hd pass0 ha hdb he hpl
theorem pe_hasK0 (h : HasK X.prog X.w X.K X.mg X.base x C k ps sp dvs) (hr : Room (k + 1) X.A) (hg : Gl X x := by rfl) (hdb : (x == ("__debug__" : Str)) = false := by decide) :
    PE X (.Call (.Name x p) [] [] pos) (tMake C sp dvs E0 tNil) := by
  obtain ⟨f, fd, ds, hm, M, hb, hd, F⟩ := h.ex
  exact pe_make0 M F hr hg hm hb hd pass0 hdb
end
end L2
namespace L2
open PySem PySem.Spec PyProof.Rows
theorem lk_hd {f : Str} {v : V} {r : List (Str × V)} : ((f, v) :: r).lookup f = some v := by simp [List.lookup]
theorem lk_tl {f g : Str} {v : V} {r : List (Str × V)} {o : Option V} (h : ¬ f = g) (k : r.lookup f = o) : ((g, v) :: r).lookup f = o := by
  have e : (f == g) = false := by simpa using h
  simp [List.lookup, e, k]
theorem putF_new {f : Str} {v : V} : ∀ {r : List (Str × V)}, (∀ q ∈ r, ¬ q.1 = f) → putF f v r = r ++ [(f, v)]
  | [], _ => rfl
  | (g, x) :: r, h => by
    show (if g = f then (g, v) :: r else (g, x) :: putF f v r) = _
    rw [if_neg (h (g, x) List.mem_cons_self), putF_new fun q hq => h q (List.mem_cons_of_mem _ hq)]
    rfl
/-- a class's def with defaults, made by its name -/
structure InitAt (K : PySem.W.Frag) (mg : Str → Option Value) (x : Str) (C : Addr) (qual : Str) (st : Stmt) (dvs : List V) (kws : List (Str × V)) : Prop where
  ex : ∃ (f : Addr) (fd : FuncData), mg x = some (.ref C) ∧ Mk K C f ∧ FunD K "__init__" qual (defArgs st) (defBody st) (defScope st) dvs kws f fd
/-- the same as a method -/
structure MethD (K : PySem.W.Frag) (C : Addr) (m qual : Str) (st : Stmt) (dvs : List V) (kws : List (Str × V)) : Prop where
  ex : ∃ (f : Addr) (fd : FuncData), Meth K C m f ∧ FunD K m qual (defArgs st) (defBody st) (defScope st) dvs kws f fd
structure HasD (P : Program) (w : World) (K : PySem.W.Frag) (mg : Str → Option Value) (base : Heap) (C : Addr) (m : Str) (k : Nat) (ps : List Str) (sp : Sp) (dvs : List V) : Prop where
  ex : ∃ (f : Addr) (fd : FuncData) (ds : List Value), Meth K C m f ∧ Binds K fd ps ds ∧ Vals dvs ds ∧ FnOk P w K mg base CX0 k f fd ps sp
section
variable {X : Cx} {C : Addr} {m : Str} {k : Nat} {ps : List Str} {sp : Sp} {dvs : List V} {apos pos : Pos} {o e : Expr} {es : List Expr} {ta : TE} {t : TA} {pl : Sem Bool}
theorem pe_hasD (h : HasD X.prog X.w X.K X.mg X.base C m k ps sp dvs) (c : Cls X.K C) (hr : Room k X.A) (ho : PE X o ta) (ha : PA X (e :: es) t)
    (hst : starEach (e :: es) X.env = (false, eval e X.env) :: starEach es X.env := by rfl) (hpl : (backTo pos (starEach es X.env)).any (·.1) = false := by rfl)
    (ht : eval (.Call (.Attribute o m apos) (e :: es) [] pos) X.env = (do
      let ov ← eval o X.env
      standAt apos.atName
      let (f, first) ← holding [ov] (getMethod ov m pl)
      callWith pos f first (backTo pos (starEach (e :: es) X.env)) (backToKw pos (keywordEach [] X.env))) := by rfl) :
    PE X (.Call (.Attribute o m apos) (e :: es) [] pos) (tMeth C m sp dvs E0 ta t) := by
  obtain ⟨f, fd, ds, hm, hb, hd, F⟩ := h.ex
  exact pe_meth ho c hm F hr hb hd pass0 ha hst hpl ht
theorem pe_hasM (h : HasM X.prog X.w X.K X.mg X.base C m k ps sp) (c : Cls X.K C) (hr : Room k X.A) (ho : PE X o ta) (ha : PA X (e :: es) t)
    (hst : starEach (e :: es) X.env = (false, eval e X.env) :: starEach es X.env := by rfl) (hpl : (backTo pos (starEach es X.env)).any (·.1) = false := by rfl)
    (ht : eval (.Call (.Attribute o m apos) (e :: es) [] pos) X.env = (do
      let ov ← eval o X.env
      standAt apos.atName
      let (f, first) ← holding [ov] (getMethod ov m pl)
      callWith pos f first (backTo pos (starEach (e :: es) X.env)) (backToKw pos (keywordEach [] X.env))) := by rfl) :
    PE X (.Call (.Attribute o m apos) (e :: es) [] pos) (tMeth C m sp [] E0 ta t) := by
  obtain ⟨f, fd, hm, hb, F⟩ := h.ex
  exact pe_meth ho c hm F hr hb .nil pass0 ha hst hpl ht
end
end L2
namespace L2
open PySem PySem.Spec PyProof.Rows
theorem Same.st {K : PySem.W.Frag} {H H' : Hp} {a : Addr} {xs : List V} (e : Same H H') (h : SqT K H a xs) : SqT K H' a xs := by
  rcases h with (h | ⟨o, h⟩) | h
  · exact .inl (.inl (e _ _ h))
  · exact .inl (.inr ⟨o, e _ _ h⟩)
  · exact .inr h
end L2
namespace L2
open PySem PySem.Spec PyProof.Rows
theorem Same.mut {H H' : Hp} {p : Addr} {o : HO} (e : Same H H') (h : H p = none) : Same H (upd H' p o) := fun a u ha => by
  rw [upd_ne (ne_of_none ha h)]
  exact e a u ha
theorem walk_zipT {K : PySem.W.Frag} {a b : Addr} {xs ys : List V} {n : Nat} (hn : n = min xs.length ys.length) : Walk (RZ.ItzT K a b) n (fun H => SqT K H a xs ∧ SqT K H b ys) (YPair (fun i => xs[i]?) (fun i => ys[i]?)) := by
  subst hn
  refine ⟨fun i _ hi q => ?_, fun _ q => ⟨xs, ys, q.1, q.2, by omega⟩, fun i H v H' _ q y => ?_⟩
  · have h1 : i < xs.length := by omega
    have h2 : i < ys.length := by omega
    exact ⟨xs, ys, xs[i], ys[i], q.1, q.2, by simp [h1], by simp [h2]⟩
  · obtain ⟨T, x, z, h1, h2, h3, h4, h5⟩ := y
    exact ⟨T, x, z, h1, h2, h3, h4 xs q.1, h5 ys q.2⟩
/-- a comprehension without a test whose element leaves what was tracked: the new list of val 0, val 1, .. -/
theorem lc_map {J : It} {n : Nat} {G : Hp → Prop} {Y : Nat → Hp → V → Hp → Prop} (w : Walk J n G Y) {g : TG} {te : TE} {vs : List Nat} {σ : St} {H1 : Hp} {D : Addr} {Qd : Hp → Prop} (val : Nat → V) (nD : H1 D = none) (hn : n < 1000000)
    (hG : ∀ H, Same H1 H → G H)
    (hs : ∀ i x H H', i < n → Same H1 H → Y i H x H' → ∀ R : V → Hp → Prop, (∀ H4, Same H H4 → R (val i) H4) → g x (wipe σ vs) H' fun σ2 H2 => wipe σ2 vs = wipe σ vs ∧ te σ2 H2 R)
    (hd : ∀ H, Same H1 H → H D = some (.lst ((List.range n).map val)) → Qd H) :
    ∃ W : Nat → Nat → Hp → Prop, (∃ m, W 0 m (upd H1 D (.lst []))) ∧ ∀ i m H, W i m H →
      (J.stop i H ∧ Qd H) ∨ (J.go i H ∧ ∃ Nx : Hp → Prop, (∀ H', Nx H' → ∃ m', m' < m ∧ W (i + 1) m' H') ∧ ∀ x H', J.yld i H x H' → g x (wipe σ vs) H' fun σ2 H2 => wipe σ2 vs = wipe σ vs ∧ tYes σ2 H2 fun b H3 =>
        if b = true then te σ2 H3 fun y H4 => ∃ acc, H4 D = some (.lst acc) ∧ acc.length < sizeLine ∧ Nx (upd H4 D (.lst (acc ++ [y]))) else Nx H3) := by
  refine lc_it w (fun i H => Same H1 H ∧ H D = some (.lst ((List.range i).map val))) ⟨fun b o h => by rw [upd_ne (ne_of_none h nD)]; exact h, upd_same⟩ (fun i H _ p => hG H p.1) ?_ (fun H p => hd H p.1 p.2)
  rintro i x H H' hi ⟨p1, p2⟩ y
  have h := hs i x H H' hi p1 y (fun y' H4 => ∃ acc, H4 D = some (.lst acc) ∧ acc.length < sizeLine ∧ (Same H1 (upd H4 D (.lst (acc ++ [y']))) ∧ (upd H4 D (.lst (acc ++ [y']))) D = some (.lst ((List.range (i + 1)).map val)))) fun H4 s4 => by
    refine ⟨_, s4 _ _ p2, ?_, (p1.trans s4).mut nD, ?_⟩
    · rw [List.length_map, List.length_range]
      exact Nat.lt_of_lt_of_le (by omega : i < 1000000) (by decide)
    · rw [List.range_succ, List.map_append]
      exact upd_same
  exact h
end L2
namespace L2
open PySem PySem.Spec PyProof.Rows
/-! ### rules whose reading names the written part, for a comprehension's block -/
section
variable {X : Cx}
theorem pg_tupK (K : PySem.W.Frag) (n : Nat) (hK : X.K = K := by rfl) {es : List Expr} {k : Nat} {t : TGs} {pos : Pos} (hc : X.calm = true) (h : PGs X es t)
    (hn : (assignEach es X.env).length = n := by rfl) (hst : (assignEach es X.env).findIdx? (·.1) = none := by rfl) : PG X (.Tuple es k pos) (gTup K n t) := by
  subst hK
  exact pg_tup hc h hn hst
theorem ix_listK (K : PySem.W.Frag) (hK : X.K = K := by rfl) : IxR X (rIxL K) := by
  subst hK
  exact ix_list
theorem ix_tupK (K : PySem.W.Frag) (hK : X.K = K := by rfl) : IxR X (rIxT K) := by
  subst hK
  exact ix_tup
theorem pe_fldK (K : PySem.W.Frag) {e : Expr} {ta : TE} {f : Str} {pos : Pos} (he : PE X e ta) (hb : attributeBase e f X.env (eval e X.env) = eval e X.env) (hK : X.K = K := by rfl) : PE X (.Attribute e f pos) (tFld K ta f) := by
  subst hK
  exact pe_fld he hb
end
end L2
namespace L2
open PySem PySem.Spec PyProof.Rows
/-! ### the end: what the top has written, read off the written part -/
section
variable {K : PySem.W.Frag} {mg : Str → Option Value} {h : Heap}
theorem funAt_mk {x qual : Str} {st : Stmt} {f : Addr} {oc : Value} {od an : Option Addr} {osl : Array (Option Value)} {kV doc pm cdv ct : Value} (X : K.In h) (G : h.Ns mainGlobals mg) (a : PySem.W.nsIn K mainGlobals x = some (some (.ref f)))
    (l : K.lookup f = some ⟨oc, od, .func (PySem.W.fnOf x qual (defArgs st) (defBody st) (defScope st) .none kV doc pm an cdv ct), osl⟩) (c : PySem.W.codeIn K cdv qual = true) (k : PySem.W.keepIn K (.ref f) = true) : FunAt K mg x qual st :=
  ⟨f, _, PySem.W.mg_of X G a, fun_mk l c k⟩
theorem methAt_mk {C : Addr} {m qual : Str} {st : Stmt} {f : Addr} {oc : Value} {od an : Option Addr} {osl : Array (Option Value)} {kV doc pm cdv ct : Value} (a : PySem.W.findIn K (.ref C) m = some (some (.ref f))) (i : PySem.W.isFn K (.ref f) = true)
    (l : K.lookup f = some ⟨oc, od, .func (PySem.W.fnOf m qual (defArgs st) (defBody st) (defScope st) .none kV doc pm an cdv ct), osl⟩) (c : PySem.W.codeIn K cdv qual = true) (k : PySem.W.keepIn K (.ref f) = true) : MethAt K C m qual st :=
  ⟨f, _, ⟨a, i, k⟩, fun_mk l c k⟩
theorem propAt_mk {C : Addr} {m qual : Str} {st : Stmt} {p g : Addr} {rest : List Value} {oc : Value} {od an : Option Addr} {osl : Array (Option Value)} {kV doc pm cdv ct : Value} (a : PySem.W.findIn K (.ref C) m = some (some (.ref p)))
    (b : PySem.W.specialIn K (.ref p) "__get__" = some (some (.builtin "property.__get__"))) (t : PySem.W.takesIn K (.ref p) = some true) (r : PySem.W.recIn K p "property" = some (.ref g :: rest))
    (l : K.lookup g = some ⟨oc, od, .func (PySem.W.fnOf m qual (defArgs st) (defBody st) (defScope st) .none kV doc pm an cdv ct), osl⟩) (c : PySem.W.codeIn K cdv qual = true) (k : PySem.W.keepIn K (.ref g) = true) : PropAt K C m qual st :=
  ⟨p, g, _, ⟨a, b, t, rest, r⟩, fun_mk l c k⟩
theorem funD_mk {x qual : Str} {st : Stmt} {f T : Addr} {dvs : List V} {oc tc : Value} {od an td : Option Addr} {osl tsl : Array (Option Value)} {kV doc pm cdv ct : Value} {its : List Value} {n : Nat}
    (l : K.lookup f = some ⟨oc, od, .func (PySem.W.fnOf x qual (defArgs st) (defBody st) (defScope st) (.ref T) kV doc pm an cdv ct), osl⟩) (c : PySem.W.codeIn K cdv qual = true) (k : PySem.W.keepIn K (.ref f) = true)
    (t : K.lookup T = some ⟨tc, td, .seq its.toArray n, tsl⟩) (v : Vals dvs its) (hd : dvs ≠ []) : FunD K x qual (defArgs st) (defBody st) (defScope st) dvs [] f (PySem.W.fnOf x qual (defArgs st) (defBody st) (defScope st) (.ref T) kV doc pm an cdv ct) :=
  ⟨⟨oc, od, .ref T, kV, doc, pm, an, cdv, ct, osl, rfl, l, c, .inr ⟨hd, T, _, its, n, rfl, t, rfl, v⟩, .inl rfl⟩, k⟩
theorem initAt_mk {x : Str} {C f : Addr} {qual : Str} {st : Stmt} {dvs : List V} {kws : List (Str × V)} {fd : FuncData} (X : K.In h) (G : h.Ns mainGlobals mg) (g : PySem.W.nsIn K mainGlobals x = some (some (.ref C)))
    (m : PySem.W.makesIn K C = true) (i : PySem.W.findIn K (.ref C) "__init__" = some (some (.ref f))) (n : PySem.W.isFn K (.ref f) = true) (k : PySem.W.keepIn K (.ref C) = true)
    (F : FunD K "__init__" qual (defArgs st) (defBody st) (defScope st) dvs kws f fd) : InitAt K mg x C qual st dvs kws := ⟨f, fd, PySem.W.mg_of X G g, ⟨m, i, n, k⟩, F⟩
theorem methD_mk {C f : Addr} {m qual : Str} {st : Stmt} {dvs : List V} {kws : List (Str × V)} {fd : FuncData} (a : PySem.W.findIn K (.ref C) m = some (some (.ref f))) (i : PySem.W.isFn K (.ref f) = true) (k : PySem.W.keepIn K (.ref f) = true)
    (F : FunD K m qual (defArgs st) (defBody st) (defScope st) dvs kws f fd) : MethD K C m qual st dvs kws := ⟨f, fd, ⟨a, i, k⟩, F⟩
theorem ownC_mk {C : Addr} (pg : PySem.W.plainGet K C Str.empty = true) (hd : PySem.W.hasDictIn K C = true) (po : PySem.W.plainOver K C = true) (sa : PySem.W.findIn K (.ref C) "__setattr__" = some (some (.builtin "object.__setattr__")))
    (ca : PySem.W.findIn K (.ref C) "__class__" = some (some (.builtin "object.__class__"))) (cn : PySem.W.specialIn K (.builtin "object.__class__") "__get__" = some (some (.builtin "getset_descriptor.__get__")))
    (ct : PySem.W.takesIn K (.builtin "object.__class__") = some true) (mo : PySem.W.mroIn K C (.type "object") = some true) (ic : PySem.W.isClsIn K C = true) (tc : PySem.W.typeIn K (.ref C) = some (.type "type")) : OwnC K C :=
  ⟨⟨pg, hd, po, sa⟩, ca, cn, ct, mo, ic, tc⟩
end
end L2

set_option maxHeartbeats 4000000
namespace L2
open PySem PySem.Spec PyProof.Rows
section
variable {X : Cx}
/-- d.update(e), two dicts of written keys -/
def rUpdate : V → List V → Hp → VK → Prop := fun x vs H Q => ∃ (d o : Addr) (ks ls : List (Key × V)), x = .ref d ∧ vs = [.ref o] ∧ d ≠ o ∧ H d = some (.dK ks) ∧ H o = some (.dK ls) ∧
  ks.length + ls.length ≤ sizeLine ∧ Q .non (upd H d (.dK (mergeK ks ls)))
theorem mt_update : MtR X "dict.update" rUpdate := by
  intro pins s σ H x vs v us Q I rx rv h
  obtain ⟨d, o, ks, ls, rfl, rfl, ne, ed, eo, z, q⟩ := h
  cases (show v = Value.ref d from rx)
  obtain ⟨u, rfl, ru⟩ := rv.one
  cases (show u = Value.ref o from ru)
  obtain ⟨z1, nd, xs, rel, dd⟩ := dk_of I.hok ed
  obtain ⟨z2, no, ys, rel2, dd2⟩ := dk_of I.hok eo
  have le : (mergeK ks ls).length ≤ sizeLine := Nat.le_trans (length_mergeK ls ks) z
  refine call_meetsIn PySem.F.slot_dict_update dd.typeIs PySem.F.entry_dict_update (PySem.F.args_dict_update_2 _ _) (meets_dict_update (mixKind X.prog X.w) d o ne no)
    ⟨xs, ys, dd, dd2, by rw [← rel.length, ← rel2.length]; exact z, fun h' dd' _ hs => ?_⟩
  obtain ⟨_, _, _, hq, _⟩ := id dd'
  exact ⟨.non, _, d_write (t' := s.toks) I (by rw [ed]; exact True.intro) hs ⟨_, hq⟩ (dk_new le nd (KV.merge rel2 rel) dd'), rfl, q⟩
/-- d == {} -/
def rEqNone : R2 := fun x y H Q => ∃ (a b : Addr) (ks : List (Key × V)), x = .ref a ∧ y = .ref b ∧ H a = some (.dK ks) ∧ H b = some (.dK []) ∧ Q (.bl ks.isEmpty) H
theorem op_eqNone (hu : X.A.units < cLine) : OpR X (compareOp .Eq) rEqNone := by
  intro pins s σ H x y v u Q I rx ry h
  obtain ⟨a, b, ks, rfl, rfl, ea, eb, q⟩ := h
  cases (show v = Value.ref a from rx)
  cases (show u = Value.ref b from ry)
  obtain ⟨_, ya, va, ra, da⟩ := dk_of I.hok ea
  obtain ⟨_, yb, vb, rb, db⟩ := dk_of I.hok eb
  cases rb
  refine PySem.W.keq_eq (r := true) ya yb da db hu (fun l => ?_) (fin_bl I q ?_)
  · cases va with
    | nil => exact .nil
    | cons => cases l
  · cases ra <;> rfl
end
end L2

set_option maxHeartbeats 4000000
/-! defs that are called where no container is being told (no guard stands): such a def may ask repr of lists and tuples -/
namespace L2
open PySem PySem.Spec PyProof.Rows
def Calm (A : Around) : Prop := A.guards = some []
structure FnG (P : Program) (w : World) (K : PySem.W.Frag) (mg : Str → Option Value) (base : Heap) (CX : CXT) (k : Nat)
    (f : Addr) (fd : FuncData) (ps : List Str) (sp : Sp) : Prop where
  len : ∀ vs H Q E, sp vs H Q E → vs.length = ps.length
  run : ∀ (A : Around) (outer : List Env) (s : Shared) (H : Hp) (args : Args) (us : List Value) (vs : List V) (Q : VK) (E : XK),
    Room k A → Calm A → Env0 P w K mg base A outer s H → BindsTo s fd args (ps.zip us) → Vals vs us → sp vs H Q E →
    codeAny (model P w) A (.call (.ref f) args) (CR CX outer P w H s Q E) s
section
variable {P : Program} {w : World} {K : PySem.W.Frag} {mg : Str → Option Value} {base : Heap} {CX : CXT} {k : Nat}
variable {f : Addr} {fd : FuncData} {ps : List Str} {sp sp' : Sp}
theorem FnG.of (F : FnOk P w K mg base CX k f fd ps sp) : FnG P w K mg base CX k f fd ps sp :=
  ⟨F.len, fun A o s H args us vs Q E hr _ => F.run A o s H args us vs Q E hr⟩
theorem FnG.mono {j : Nat} (F : FnG P w K mg base CX j f fd ps sp) (h : j ≤ k) : FnG P w K mg base CX k f fd ps sp :=
  ⟨F.len, fun A o s H args us vs Q E hr => F.run A o s H args us vs Q E (hr.mono h)⟩
/-- a def by its body, where no guard stands -/
theorem Fun.okG {x qual : Str} {st : Stmt} {N : List Str} (F : Fun K x qual st f fd) (S : FnScope N ps (defScope st)) (len : ∀ vs H Q E, sp vs H Q E → vs.length = ps.length)
    (body : ∀ (cdv : Value) (A : Around) (outer : List Env) (s : Shared) (H : Hp) (vs : List V) (Q : VK) (E : XK),
      Calm (A.deeper (envOfC qual (defScope st) s.heap.objs.size f cdv)) → Room k (A.deeper (envOfC qual (defScope st) s.heap.objs.size f cdv)) → sp vs H Q E →
      ∃ t, PSs (cxOf CX0 P w K mg base N qual (defScope st) f cdv A outer s H E).nox (defBody st) t ∧ t { nx := fun _ H' => Q .non H', rt := Q } (start N vs) H) :
    FnG P w K mg base CX0 (k + 1) f fd ps sp := by
  obtain ⟨oc, od, kV, doc, pm, an, cdv, ct, osl, rfl, lk, hcd⟩ := F.ex
  refine ⟨len, fun A outer s H args us vs Q E hr hG e0 hb r hsp => ?_⟩
  have KX : K.In s.heap := e0.mod.kin.keeps fun b o e => (e0.bs b o e).1
  have nl : s.heap.NoLimit := e0.mod.nolimit.keeps fun b o e => (e0.bs b o e).1
  have kinds : ∀ y ∈ ps.zip us, (defScope st).names.lookup y.1 = some .local ∨ ((defScope st).names.lookup y.1 = some .cell ∧ ((cellsFrom (s.heap.objs.size + 1) (defScope st).names []).lookup y.1).isSome = true) := by
    rintro ⟨n, v⟩ hy
    exact (S.par n (List.of_mem_zip hy).1).imp id fun q => ⟨q, PySem.W.cellsFrom_some _ _ _ (.inl q)⟩
  refine codeAny_call_function hr.depth (KX _ _ lk) rfl S.co S.gen rfl (PySem.W.codeRec_of KX hcd) (hb _ _ _ _ (wpAny_newFunctionEnv_cells S.kind kinds fun env he s1 x => ?_))
  cases he
  obtain ⟨t, ht, hq⟩ := body cdv A outer s H vs Q E hG (hr.deeper _) hsp
  have I := inv_start (CX := CX0) (P := P) (w := w) (K := K) (mg := mg) (base := base) (qual := qual) (cd := cdv) (E := E) S hr.hd e0 (len _ _ _ _ hsp) r x
  refine ⟨nl.keeps x.toInCall.keep, codeAny_func (wpAny_mono (ht.nox.run [] s1 (start N vs) H _ I hq) (fun fl s' hs => ?_) fun _ _ z => z)⟩
  have fin : ∀ {σ' : St} {H' : Hp} {v : V} {u : Value}, Inv (cxOf CX0 P w K mg base N qual (defScope st) f cdv A outer s H E) [] σ' H' s' → RelV v u → Q v H' → CE outer P w H s Q u s' :=
    fun J rv q => ⟨_, _, J.os, J.bare, J.base, J.hok, rv, q⟩
  match fl, hs with
  | .ret u, ⟨v, σ', H', J, rv, q⟩ => exact fin J rv q
  | .next, ⟨σ', H', J, q⟩ => exact fin (v := V.non) (u := Value.none) J rfl q
  | .brk, ⟨_, _, _, q⟩ => exact q.elim
  | .cont, ⟨_, _, _, q⟩ => exact q.elim
end
/-- a def of the module under its name, its promise where no guard stands -/
structure HasG (P : Program) (w : World) (K : PySem.W.Frag) (mg : Str → Option Value) (base : Heap) (x : Str) (k : Nat) (ps : List Str) (sp : Sp) : Prop where
  ex : ∃ (f : Addr) (fd : FuncData), mg x = some (.ref f) ∧ PySem.W.keepIn K (.ref f) = true ∧ Binds K fd ps [] ∧ FnG P w K mg base CX0 k f fd ps sp
section
variable {P : Program} {w : World} {K : PySem.W.Frag} {mg : Str → Option Value} {base : Heap} {x : Str} {k : Nat} {ps : List Str} {sp : Sp}
theorem HasG.of (h : Has P w K mg base x k ps sp) : HasG P w K mg base x k ps sp := let ⟨f, fd, a, b, c, d⟩ := h.ex; ⟨f, fd, a, b, c, .of d⟩
theorem hasG_of {qual : Str} {st : Stmt} {N : List Str} (F : FunAt K mg x qual st) (S : FnScope N ps (defScope st))
    (hb : ∀ (kV doc pm : Value) (an : Option Addr) (cdv ct : Value) (us : List Value), us.length = ps.length → bindArgs (PySem.W.fnOf x qual (defArgs st) (defBody st) (defScope st) .none kV doc pm an cdv ct) ⟨us, []⟩ = pure (ps.zip us))
    (len : ∀ vs H Q E, sp vs H Q E → vs.length = ps.length)
    (body : ∀ (f : Addr) (cdv : Value) (A : Around) (outer : List Env) (s : Shared) (H : Hp) (vs : List V) (Q : VK) (E : XK),
      Calm (A.deeper (envOfC qual (defScope st) s.heap.objs.size f cdv)) → Room k (A.deeper (envOfC qual (defScope st) s.heap.objs.size f cdv)) → sp vs H Q E →
      ∃ t, PSs (cxOf CX0 P w K mg base N qual (defScope st) f cdv A outer s H E).nox (defBody st) t ∧ t { nx := fun _ H' => Q .non H', rt := Q } (start N vs) H) :
    HasG P w K mg base x (k + 1) ps sp := by
  obtain ⟨f, fd, hm, F⟩ := F.ex
  exact ⟨f, fd, hm, F.kp, F.binds hb, F.okG S len (body f)⟩
end
section
variable {X : Cx} {x : Str} {k n : Nat} {f : Addr} {fd : FuncData} {ps : List Str} {sp : Sp} {p pos : Pos} {e : Expr} {es : List Expr} {t : TA} {pins : List (Addr × Obj)} {σ : St} {H : Hp} {s : Shared} {Q : VK}
/-- the callee runs -/
theorem FnG.call {us : List Value} {ws : List V} {E : XK} {CX : CXT} (F : FnG X.prog X.w X.K X.mg X.base CX n f fd ps sp) (hb : Binds X.K fd ps []) (hr : Room n X.A) (hg : Calm X.A) (hx : Passes CX X E) (I : Inv X pins σ H s)
    (r : Vals ws us) (h : sp ws H Q E) : wpAny (model X.prog X.w) X.A (call (.ref f) us) (EP X pins σ Q) X.xe s := by
  have hl : (us ++ []).length = ps.length := by
    rw [List.append_nil, ← F.len _ _ _ _ h, r.length]
  have b := hb s us I.kIn hl
  rw [List.append_nil] at b
  refine wpAny_call (codeAny_mono (F.run X.A X.stack s H ⟨us, []⟩ us ws Q E hr hg I.env0 b r h) fun z s' hq => ?_)
  match z, hq with
  | .error e, hq => exact hx pins σ H s e s' I hq
  | .ok (.ret u), hq => exact I.after hq
/-- f(e, ..) -/
theorem pe_hasG (h : HasG X.prog X.w X.K X.mg X.base x k ps sp) (hr : Room k X.A) (hc : Calm X.A) (ha : PA X (e :: es) t) (hg : Gl X x := by rfl) (hdb : (x == ("__debug__" : Str)) = false := by decide)
    (he : starEach (e :: es) X.env = (false, eval e X.env) :: starEach es X.env := by rfl) (hpl : (backTo pos (starEach es X.env)).any (·.1) = false := by rfl) :
    PE X (.Call (.Name x p) (e :: es) [] pos) (tCall sp [] E0 t) := by
  obtain ⟨f, fd, hm, hk, hb, F⟩ := h.ex
  refine ⟨fun pins s σ H Q I q => wpAny_Call_Name_kw (ld_glob I hg hm ?_ hdb)⟩
  refine PySem.W.callWith_K I.ok.mod.kin hk (thn (ha.run pos pins s σ H _ I q) fun us s1 z => ?_) he hpl
  obtain ⟨vs, H1, I1, r, q1⟩ := z
  exact ⟨I1.kIn, F.call hb hr hc pass0 I1 r (by rw [List.append_nil] at q1; exact q1)⟩
end
end L2

set_option maxHeartbeats 4000000
namespace L2
open PySem PySem.Spec PyProof.Rows
/-- the script, told to the abstract heap: by itself, or as one of the module's own objects -/
theorem script_told {P : Program} {w : World} {K : PySem.W.Frag} {s : Shared} {a : Addr} {vs : List Value} {ns : List Int} (KX : K.In s.heap) (ha : s.heap.get? a = some { cls := .type "list", data := .seq vs.toArray })
    (hi : IntsAre vs ns) (hl : ns.length ≤ sizeLine) :
    ∃ H : Hp, Only H ∧ SqL K H a (ns.map V.int) ∧ HOk P w H s.heap ∧ (∀ b, H b ≠ none → b = a) ∧ (H a ≠ none → K.lookup a = none) := by
  have rv := vals_ints hi
  rcases hk : K.lookup a with _ | o
  · let o : Obj := { cls := .type "list", data := .seq vs.toArray }
    let H : Hp := fun b => if b = a then some (.frz o (.lst (ns.map V.int))) else none
    have at_ : H a = some (.frz o (.lst (ns.map V.int))) := if_pos rfl
    have off : ∀ b, b ≠ a → H b = none := fun b n => if_neg n
    refine ⟨H, fun b => ?_, .inl (.inr ⟨o, at_⟩), fun b u z => ?_, fun b z => ?_, fun _ => rfl⟩
    · rcases Nat.decEq b a with n | n
      · exact .inl (off b n)
      · exact .inr ⟨_, _, n ▸ at_⟩
    · rcases Nat.decEq b a with n | n
      · rw [off b n] at z; cases z
      · subst n
        rw [at_] at z
        cases z
        exact ⟨ha, by rw [List.length_map]; exact hl, vs, _, rv, ha⟩
    · rcases Nat.decEq b a with n | n
      · exact absurd (off b n) z
      · exact n
  · have e := KX a o hk
    rw [ha] at e
    cases e
    exact ⟨fun _ => none, fun _ => .inl rfl, .inr ⟨_, vs.toArray, _, hk, rfl, rfl, rfl, by rw [List.size_toArray, hi.length]; exact hl, by simpa using rv⟩,
      fun b u z => (nomatch (show (none : Option HO) = some u from z)), fun b z => absurd rfl z, fun z => absurd rfl z⟩
/-- the law's promise at the heap behind the top -/
theorem law_callG {P : Program} {w : World} {K : PySem.W.Frag} {mg mb : Str → Option Value} {k : Nat} {fa a : Addr} {fd : FuncData} {x : Str} {sp : Sp} {s : Shared} {vs : List Value} {ns : List Int}
    (KX : K.In s.heap) (hns : s.heap.Ns mainGlobals mg) (hb : s.heap.Ns builtinsNs mb) (hbb : ∀ y : Str, y ≠ "__name__" → mb y = bootBuiltins y) (nl : s.heap.NoLimit) (hg : s.gens = #[])
    (ha : s.heap.get? a = some { cls := .type "list", data := .seq vs.toArray }) (hi : IntsAre vs ns) (hl : ns.length ≤ sizeLine) (hr : Room k callerA)
    (F : ∀ base : Heap, K.In base → base.Ns mainGlobals mg → FnG P w K mg base CX0 k fa fd [x] sp) (bind : ∀ (s : Shared) (u : Value), BindsTo s fd ⟨[u], []⟩ [(x, u)])
    (hsp : ∀ H : Hp, Only H → SqL K H a (ns.map V.int) → sp [.ref a] H (fun v _ => v = .bl true) E0) :
    codeAny (model P w) callerA (.call (.ref fa) ⟨[.ref a], []⟩) (fun r s' => r = .ok (.ret (.bool true)) ∧ OldK s.heap s'.heap ∧ s'.os = s.os ∧ AllBare s'.gens) s := by
  obtain ⟨H, hO, hS, hok, hA, hK⟩ := script_told (P := P) (w := w) KX ha hi hl
  have low : ∀ {b : Addr} {o : Obj}, s.heap.get? b = some o → (b = a → H b = none) → (hidT s.heap H).get? b = some o := fun {b o} e n =>
    hidT_get e (Classical.byContradiction fun q => q (n (hA b q)))
  have dicts : ∀ {b : Addr} {m : Str → Option Value}, s.heap.Ns b m → (hidT s.heap H).Ns b m := fun {b m} n => by
    obtain ⟨o, es, ep, e, d, r⟩ := n
    refine ⟨o, es, ep, low e fun q => ?_, d, r⟩
    subst q
    rw [ha] at e
    cases e
    exact (nomatch (show Data.seq vs.toArray _ = Data.dict es ep from d))
  have hKb : K.In (hidT s.heap H) := fun b o e => low (KX b o e) fun q => by
    subst q
    exact Classical.byContradiction fun z => by rw [hK z] at e; cases e
  obtain ⟨mc, n1, n2⟩ := nl
  have e0 : Env0 P w K mg (hidT s.heap H) callerA [] s H :=
    ⟨rfl, ⟨hKb, dicts hns, ⟨mb, dicts hb, hbb⟩, ⟨mc, dicts n1, n2⟩⟩, fun b o e => of_hidT e, Nat.le_of_eq (hidT_size _ _), trivial, fun b z => (nomatch z), hok, .of_eq hg⟩
  refine codeAny_mono ((F _ hKb (dicts hns)).run callerA [] s H ⟨[.ref a], []⟩ [.ref a] [.ref a] _ _ hr rfl e0 (bind s (.ref a)) (.cons rfl .nil) (hsp H hO hS)) fun r s' h => ?_
  match r, h with
  | .ok (.ret u), ⟨v, H', os, bare, un, hok', rv, (q : v = .bl true)⟩ =>
    subst q
    cases (show u = Value.bool true from rv)
    refine ⟨rfl, OldK.of_keep fun b o e => ?_, os, bare⟩
    rcases hO b with z | ⟨ob, xs, z⟩
    · exact un.keep b o e z (fun m => nomatch m) (fun m => nomatch m)
    · have e1 := (hok b _ z).1
      rw [e] at e1
      cases e1
      exact (hok' b _ (un.frzs b o _ z)).1
/-- THE HEAD -/
theorem walk_ofG {l : PySem.W.OpenLaw} {n k : Nat} {q : Program} {loose : List Str} {XP : (Str → Option Value) → Heap → Prop} {YP : World → Heap → Prop} {d : DefRec} {K : Params → PySem.W.Frag} {sp : World → Sp} {x : Str}
    (hn : l.most = some n) (hn2 : n ≤ sizeLine) (hdf : d.params.defaults = []) (hr : Room k callerA) (hY : ∀ (w : World) (h : Heap), YP w h → (K w.params).In h)
    (F : ∀ (w : World) (mg : Str → Option Value) (fa : Addr) (h : Heap), (K w.params).In h → h.Ns mainGlobals mg → mg d.name = some (.ref fa) →
      ∃ fd : FuncData, (∀ (s : Shared) (u : Value), BindsTo s fd ⟨[u], []⟩ [(x, u)]) ∧
        ∀ base : Heap, (K w.params).In base → base.Ns mainGlobals mg → FnG l.prog w (K w.params) mg base CX0 k fa fd [x] (sp w))
    (hsp : ∀ (w : World) (H : Hp) (a : Addr) (ns : List Int), ns.length ≤ n → Only H → SqL (K w.params) H a (ns.map V.int) → sp w [.ref a] H (fun v _ => v = .bl true) E0) :
    PySem.W.WalkO q loose XP YP l.row.toRowW d [] (fun f vs => PySem.call f vs) := by
  refine Att.attach_call hn hdf fun w s₀ s mg mb fa o pm cd doc a vs ns G Y ho hd hcd hmg hobj hints hlen hg => ?_
  obtain ⟨fd, hb, hF⟩ := F w mg fa _ (hY w _ Y) G.T.g hmg
  exact law_callG (hY w _ Y) G.T.g G.T.b G.T.builtins G.T.nolimit hg hobj hints (Nat.le_trans hlen hn2) hr hF hb fun H h1 h2 => hsp w H a ns hlen h1 h2
end L2

set_option maxHeartbeats 4000000
/-! repr of data: none, bools, ints, texts, lists, tuples at any depth, where no guard stands -/
namespace L2
open PySem PySem.Spec PyProof.Rows
section
variable {K : PySem.W.Frag} {H : Hp}
mutual
theorem Dp.noDict : ∀ (d : PyData) (v : V), Dp K H v d → d.hasDict = false
  | .none, _, _ => rfl
  | .bool _, _, _ => rfl
  | .int _, _, _ => rfl
  | .str _, _, _ => rfl
  | .list ds, _, h => by
    cases h with
    | lst _ ha => simpa [PyData.hasDict] using Dp.noDictAll ds _ ha
  | .tuple ds, _, h => by
    cases h with
    | tup _ ha => simpa [PyData.hasDict] using Dp.noDictAll ds _ ha
  | .dict _, _, h => by cases h
theorem Dp.noDictAll : ∀ (ds : List PyData) (vs : List V), DpAll K H vs ds → PyData.hasDictAll ds = false
  | [], _, _ => rfl
  | d :: ds, _, h => by
    cases h with
    | cons h1 h2 => simp [PyData.hasDictAll, Dp.noDict d _ h1, Dp.noDictAll ds _ h2]
end
end
section
variable {X : Cx}
def rRepr (K : PySem.W.Frag) (B : Nat) : List V → Hp → VK → Prop := fun xs H Q => ∃ v d, xs = [v] ∧ Dp K H v d ∧ d.showable = true ∧ d.depth ≤ B ∧ d.shown.length ≤ sizeLine ∧ Q (.str d.shown) H
theorem call_reprD {B : Nat} (hc : Calm X.A) (hu : X.A.units + (B + 1) < cLine) : CallR X (.builtin "repr") (rRepr X.K B) := by
  intro pins s σ H xs us Q I r h
  obtain ⟨v, d, rfl, hd, hs, hB, hz, q⟩ := h
  obtain ⟨u, rfl, ru⟩ := r.one
  obtain ⟨as, rd⟩ := Dp.reads I d v u hd ru
  have nd := Dp.noDict d v hd
  match d, hd, ru, rd, hs, hB, hz, q, nd with
  | .none, .non, ru, _, _, _, _, q, _ =>
    cases ru
    exact PySem.P.repr_of_none ⟨.str _, H, I.tok _, ⟨_, rfl⟩, q⟩
  | .bool b, .bl _, ru, _, _, _, _, q, _ =>
    cases ru
    exact PySem.P.repr_of_bool ⟨.str _, H, I.tok _, ⟨_, rfl⟩, q⟩
  | .int i, .int _, ru, _, hs, _, _, q, _ =>
    obtain ⟨t, rfl⟩ := ru
    exact PySem.P.repr_of_int (by simpa [PyData.showable] using hs) ⟨.str _, H, I.tok _, ⟨_, rfl⟩, q⟩
  | .str x, .str _, ru, _, _, _, hz, q, _ =>
    obtain ⟨t, rfl⟩ := ru
    exact PySem.P.repr_of_str ⟨.str _, H, I.tok _, ⟨_, rfl⟩, q⟩ hz
  | .list ds, .lst (a := a) _ _, ru, rd, hs, hB, hz, q, nd =>
    cases ru
    exact repr_of_reads' rd hs (PyData.noDict_hsm nd) hc (by omega) (fun _ _ e => e) (fun h' t tk hk => ⟨.str _, H, I.kept hk, ⟨_, rfl⟩, q⟩) hz
  | .tuple ds, .tup (a := a) _ _, ru, rd, hs, hB, hz, q, nd =>
    cases ru
    exact repr_of_reads' rd hs (PyData.noDict_hsm nd) hc (by omega) (fun _ _ e => e) (fun h' t tk hk => ⟨.str _, H, I.kept hk, ⟨_, rfl⟩, q⟩) hz
end
end L2

set_option maxHeartbeats 4000000
namespace N
open PySem L2
def top (i : Nat) : Stmt := PySem.Challenge.pw_stitchsizes_k16_whole_books_and_words_tu.main.body.getD i (.Pass ⟨0, 0, 0, 0⟩)
structure Blts (mg : Str → Option Value) : Prop where
  n_abs : mg "abs" = none
  n_len : mg "len" = none
  n_max : mg "max" = none
  n_min : mg "min" = none
  n_int : mg "int" = none
  n_bool : mg "bool" = none
  n_divmod : mg "divmod" = none
  n_isinstance : mg "isinstance" = none
  n_range : mg "range" = none
  n_zip : mg "zip" = none
  n_tuple : mg "tuple" = none
  n_list : mg "list" = none
  n_str : mg "str" = none
  n_repr : mg "repr" = none
  n_all : mg "all" = none
  n_any : mg "any" = none
  n_sum : mg "sum" = none
  n_sorted : mg "sorted" = none
  n_dict : mg "dict" = none
  n_enumerate : mg "enumerate" = none
/-- a pot of draws: two counts -/
def Pot (H : Hp) (p : Addr) : Prop := ∃ a b : Int, H p = some (.lst [.int a, .int b]) ∧ 0 ≤ a ∧ 0 ≤ b ∧ b < 4294967296
/-- all that was tracked is as it was, but what stands at p -/
def But (p : Addr) (H H' : Hp) : Prop := ∀ b o, H b = some o → b ≠ p → H' b = some o
theorem But.refl {p : Addr} {H : Hp} : But p H H := fun _ _ h _ => h
theorem But.trans {p : Addr} {H H1 H2 : Hp} (a : But p H H1) (b : But p H1 H2) : But p H H2 := fun c o h n => b c o (a c o h n) n
theorem But.upd {p : Addr} {H : Hp} {o : HO} : But p H (L2.upd H p o) := fun c u h n => by rw [upd_ne n]; exact h
theorem But.new {p q : Addr} {H : Hp} {o : HO} (hq : H q = none) : But p H (L2.upd H q o) := fun c u h n => by rw [upd_ne (ne_of_none h hq)]; exact h
theorem But.free {p q : Addr} {H H' : Hp} (e : But p H H') (hp : q ≠ p) (h : H' q = Option.none) : H q = Option.none := by
  cases z : H q with
  | none => rfl
  | some o =>
    rw [e q o z hp] at h
    cases h
theorem Pot.at {H : Hp} {p : Addr} (h : Pot H p) : ∃ o, H p = some o := let ⟨_, _, e, _⟩ := h; ⟨_, e⟩
theorem Pot.ne {H : Hp} {p q : Addr} (h : Pot H p) (hq : H q = none) : q ≠ p := fun z => by obtain ⟨_, _, e, _⟩ := h; subst z; rw [hq] at e; cases e
theorem Pot.new {H : Hp} {p q : Addr} {o : HO} (h : Pot H p) (hq : H q = none) : Pot (L2.upd H q o) p := by
  obtain ⟨a, b, e, r⟩ := h
  exact ⟨a, b, by rw [upd_ne (ne_of_none e hq)]; exact e, r⟩
def spDraw : Sp := fun vs H Q _ => ∃ (p : Addr) (n : Int), vs = [.ref p, .int n] ∧ Pot H p ∧ 0 < n ∧ n < 1000000 ∧ ∀ d H', 0 ≤ d → d < n → Pot H' p → But p H H' → Q (.int d) H'
section
variable {P : Program} {w : World} {K : PySem.W.Frag} {mg : Str → Option Value} {base : Heap}
abbrev s__law_draw : Stmt := top 36
theorem sc__law_draw : FnScope ["_law_pot_here", "_law_many", "_law_digit"] ["_law_pot_here", "_law_many"] (defScope s__law_draw) := ⟨rfl, rfl, rfl, by decide +kernel, rfl, by decide +kernel, by decide +kernel⟩
theorem h_law_draw (B : Blts mg) (F : FunAt K mg "_law_draw" "_law_draw" s__law_draw) : Has P w K mg base "_law_draw" 1 ["_law_pot_here", "_law_many"] spDraw := by
  refine has_of F sc__law_draw (fun _ _ _ _ _ _ us hl => match us, hl with | [_, _], _ => rfl) (fun vs H Q E h => ?_) (fun f cdv A outer s H vs Q E hr h => ?_)
  · obtain ⟨p, n, rfl, _⟩ := h
    rfl
  · obtain ⟨p, n, rfl, hp, h0, h1, k⟩ := h
    obtain ⟨a, b, hp, ha, hb, hb2⟩ := hp
    refine ⟨_, (pss_cons (ps_if (pt_cmpR op_gt (pe_ix ix_list (pv 0) pe_int (fun _ _ => rfl)) pe_int (by first | exact nomark _ | rfl)) (pss_cons (ps_asg (pe_callB call_divmod (by rfl) B.n_divmod (by decide +kernel) (pa_cons (pe_ix ix_list (pv 0) pe_int (fun _ _ => rfl)) (pa_cons (pv 1) pa_nil))) (pg_tup rfl (pgs_cons (pg_sub (pv 0) pe_int set_list) (pgs_cons (pg_name (i := 2) sc__law_draw.nd rfl (Or.inl rfl)) pgs_nil))))
        (pss_one (ps_ret (pv 2))))
        pss_nil)
      (pss_cons (ps_asg (pe_op op_mod (pe_callTy call_int1 (by rfl) B.n_int (by decide +kernel) (pa_cons (pe_op op_add (pe_op op_mul (pe_ix ix_list (pv 0) pe_int (fun _ _ => rfl)) pe_int) pe_int) pa_nil)) pe_int) (pg_sub (pv 0) pe_int set_list))
      (pss_one (ps_ret (pe_op op_mod (pe_callTy call_int1 (by rfl) B.n_int (by decide +kernel) (pa_cons (pe_op op_fdiv (pe_op op_mod (pe_callTy call_int1 (by rfl) B.n_int (by decide +kernel) (pa_cons (pe_op op_mul (pe_ix ix_list (pv 0) pe_int (fun _ _ => rfl)) (pe_ix ix_list (pv 0) pe_int (fun _ _ => rfl))) pa_nil)) pe_int) pe_int) pa_nil)) (pv 1)))))), ?_⟩
    refine ⟨_, rfl, p, _, 0, _, rfl, rfl, SqL.of hp, rfl, _, _, rfl, rfl, _, rfl, ?_⟩
    refine ite2 (fun c => ?_) (fun _ => ?_)
    · have c' : 0 < a := of_decide_eq_true c
      refine ⟨_, rfl, p, _, 0, _, rfl, rfl, SqL.of hp, rfl, _, rfl, a, n, rfl, ⟨h0, by omega⟩, fun q hq => ?_⟩
      refine ⟨q, _, rfl, SqT.of upd_same, rfl, _, _, rfl, _, rfl, p, _, 0, 0, rfl, rfl, (by rw [upd_ne (ne_of_none hp hq)]; exact hp), rfl, _, _, rfl, rfl, ?_⟩
      refine ⟨_, rfl, k _ _ (Int.emod_nonneg _ (by omega)) (Int.emod_lt_of_pos _ h0) ⟨a / n, b, upd_same, Int.ediv_nonneg ha (by omega), hb, hb2⟩ ?_⟩
      exact (But.new hq).trans But.upd
    · refine ⟨_, rfl, p, _, 1, _, rfl, rfl, SqL.of hp, rfl, _, _, rfl, rfl, .inr ⟨by omega, by omega⟩, _, _, rfl, rfl, .inl ⟨_, rfl, _, _, rfl, rfl, (by decide : (0 : Int) < 2147483587), _, rfl, p, _, 1, 1, rfl, rfl, hp, rfl, ?_⟩⟩
      have g0 : 0 ≤ (b * 44203 + 15511) % 2147483587 := Int.emod_nonneg _ (by decide)
      have g1 : (b * 44203 + 15511) % 2147483587 < 2147483587 := Int.emod_lt_of_pos _ (by decide)
      refine ⟨_, rfl, p, _, 1, _, rfl, rfl, SqL.of upd_same, rfl, _, rfl, p, _, 1, _, rfl, rfl, SqL.of upd_same, rfl, _, _, rfl, rfl, .inr ⟨by omega, by omega⟩, .inl ⟨_, rfl, _, _, rfl, rfl, (by decide : (0 : Int) < 2147483549), _, _, rfl, rfl, ⟨by decide, by decide⟩, .inl ⟨_, rfl, _, rfl, _, _, rfl, rfl, h0, ?_⟩⟩⟩
      exact k _ _ (Int.emod_nonneg _ (by omega)) (Int.emod_lt_of_pos _ h0) ⟨a, _, upd_same, ha, g0, by omega⟩ But.upd
end
end N

set_option maxHeartbeats 4000000
namespace N
open PySem L2
theorem But.of {p : Addr} {H H' : Hp} (h : Same H H') : But p H H' := fun b o e _ => h b o e
theorem Same.new {q : Addr} {H : Hp} {o : HO} (hq : H q = none) : Same H (L2.upd H q o) := fun c u h => by rw [upd_ne (ne_of_none h hq)]; exact h
theorem But.sq {p l : Addr} {K : PySem.W.Frag} {H H' : Hp} {xs : List V} (e : But p H H') (n : l ≠ p) (h : SqL K H l xs) : SqL K H' l xs := by
  rcases h with (h | ⟨o, h⟩) | h
  · exact .inl (.inl (e _ _ h n))
  · exact .inl (.inr ⟨o, e _ _ h n⟩)
  · exact .inr h
theorem But.st {p l : Addr} {K : PySem.W.Frag} {H H' : Hp} {xs : List V} (e : But p H H') (n : l ≠ p) (h : SqT K H l xs) : SqT K H' l xs := by
  rcases h with (h | ⟨o, h⟩) | h
  · exact .inl (.inl (e _ _ h n))
  · exact .inl (.inr ⟨o, e _ _ h n⟩)
  · exact .inr h
theorem atI_at {α : Type} {xs : List α} {d : Int} {v : α} (h0 : 0 ≤ d) (h : xs[d.toNat]? = some v) : atI xs d = some v := by
  have z := atI_nat h
  rwa [Int.toNat_of_nonneg h0] at z
def spPot (K : PySem.W.Frag) : Sp := fun vs H Q _ => ∃ (a : Addr) (ns : List Int) (k : Nat), vs = [.ref a, .int k] ∧ SqL K H a (ns.map V.int) ∧ ns.length ≤ 63 ∧ k ≤ 63 ∧ ∀ p H', H p = none → Pot H' p → Same H H' → Q (.ref p) H'
def spPick (K : PySem.W.Frag) : Sp := fun vs H Q _ => ∃ (p l : Addr) (xs : List V), vs = [.ref p, .ref l] ∧ Pot H p ∧ SqL K H l xs ∧ l ≠ p ∧ xs ≠ [] ∧ xs.length < 1000000 ∧ ∀ v H', v ∈ xs → Pot H' p → But p H H' → Q v H'
section
variable {P : Program} {w : World} {K : PySem.W.Frag} {mg : Str → Option Value} {base : Heap}
abbrev s__law_pot : Stmt := top 35
theorem sc__law_pot : FnScope ["_law_script", "_law_k", "_law_cell"] ["_law_script", "_law_k"] (defScope s__law_pot) := ⟨rfl, rfl, rfl, by decide +kernel, rfl, by decide +kernel, by decide +kernel⟩
theorem h_law_pot (B : Blts mg) (F : FunAt K mg "_law_pot" "_law_pot" s__law_pot) : Has P w K mg base "_law_pot" 1 ["_law_script", "_law_k"] (spPot K) := by
  refine has_of F sc__law_pot (fun _ _ _ _ _ _ us hl => match us, hl with | [_, _], _ => rfl) (fun vs H Q E h => ?_) (fun f cdv A outer s H vs Q E hr h => ?_)
  · obtain ⟨p, n, k, rfl, _⟩ := h
    rfl
  · obtain ⟨a, ns, j, rfl, hs, hn, hj, k⟩ := h
    refine ⟨_, (pss_cons (ps_set (i := 2) sc__law_pot.nd rfl (Or.inl rfl) (pe_ifExp (pt_cmpR op_lt (pv 1) (pe_callB call_len (by rfl) B.n_len PySem.boot_len (pa_cons (pv 0) pa_nil)) (by first | exact nomark _ | rfl)) (pe_ix ix_list (pv 0) (pv 1) (fun _ _ => rfl)) (pe_op op_mul pe_int (pv 1))))
      (pss_one (ps_ret (pe_lst (pa_cons (pe_callB (call_max2 rfl) (by rfl) B.n_max (by decide +kernel) (pa_cons pe_int (pa_cons (pe_op op_sub (pe_callB call_abs (by rfl) B.n_abs (by decide +kernel) (pa_cons (pv 2) pa_nil)) (pe_op op_pow pe_int pe_int)) pa_nil))) (pa_cons (pe_op op_add (pe_op op_mod (pe_callTy call_int1 (by rfl) B.n_int (by decide +kernel) (pa_cons (pe_op op_add (pe_op op_add (pe_op op_mul (pe_op op_mod (pe_callTy call_int1 (by rfl) B.n_int (by decide +kernel) (pa_cons (pe_callB call_abs (by rfl) B.n_abs (by decide +kernel) (pa_cons (pv 2) pa_nil)) pa_nil)) pe_int) pe_int) (pe_op op_mul pe_int (pv 1))) pe_int) pa_nil)) pe_int) pe_int) pa_nil)))))), ?_⟩
    have rest : ∀ z : Int, ∀ (c : Int), c = (if z < 0 then -z else z) → ∀ (y : Int), y = (if 0 < c - 10 ^ 18 then c - 10 ^ 18 else 0) →
        ∀ q, H q = none → Q (.ref q) (upd H q (.lst [.int y, .int ((c % 2147483563 * 40009 + 61297 * (j : Int) + 17) % 2147483629 + 1)])) := by
      intro z c hc y hy q hq
      have c0 : 0 ≤ c := by subst hc; split <;> omega
      have y0 : 0 ≤ y := by subst hy; split <;> omega
      have g0 : 0 ≤ (c % 2147483563 * 40009 + 61297 * (j : Int) + 17) % 2147483629 := Int.emod_nonneg _ (by decide)
      have g1 : (c % 2147483563 * 40009 + 61297 * (j : Int) + 17) % 2147483629 < 2147483629 := Int.emod_lt_of_pos _ (by decide)
      exact k q _ hq ⟨y, _, upd_same, y0, by omega, by omega⟩ (Same.new hq)
    refine ⟨_, rfl, _, rfl, _, ns.length, rfl, .inl ⟨_, hs, by rw [List.length_map]⟩, _, _, rfl, rfl, _, rfl, ?_⟩
    have e10 : ((10 : Int) ^ (18 : Int).toNat) = 10 ^ 18 := rfl
    refine ite2 (fun c => ?_) (fun c => ?_)
    · have hlt : j < ns.length := by have := of_decide_eq_true c; omega
      refine ⟨_, rfl, _, rfl, a, _, (j : Int), .int ns[j], rfl, rfl, hs, atI_nat (by rw [List.getElem?_map, List.getElem?_eq_getElem hlt]; rfl), ?_⟩
      have m0 := Int.emod_nonneg (if ns[j] < 0 then -ns[j] else ns[j]) (by decide : (2147483563 : Int) ≠ 0)
      have m1 := Int.emod_lt_of_pos (if ns[j] < 0 then -ns[j] else ns[j]) (by decide : (0 : Int) < 2147483563)
      refine ⟨_, rfl, _, rfl, _, _, rfl, rfl, ⟨by decide, by decide, by decide⟩, _, _, rfl, rfl, _, _, rfl, _, rfl, _, rfl, .inl ⟨_, rfl, _, _, rfl, rfl, (by decide : (0 : Int) < 2147483563), _, _, rfl, rfl, .inr ⟨by decide, by decide⟩, _, rfl, _, _, rfl, rfl, .inl ⟨by decide, by decide⟩, _, _, rfl, rfl, _, _, rfl, rfl, .inl ⟨_, rfl, _, _, rfl, rfl, (by decide : (0 : Int) < 2147483629), _, _, rfl, rfl, (by show 2 ≤ sizeLine; decide), fun q hq => rest ns[j] _ rfl _ rfl q hq⟩⟩⟩
    · refine ⟨_, rfl, _, _, rfl, rfl, .inl ⟨by decide, by decide⟩, ?_⟩
      refine ⟨_, rfl, _, rfl, _, _, rfl, rfl, ⟨by decide, by decide, by decide⟩, _, _, rfl, rfl, _, _, rfl, _, rfl, _, rfl, .inl ⟨_, rfl, _, _, rfl, rfl, (by decide : (0 : Int) < 2147483563), _, _, rfl, rfl, .inr ⟨by decide, by decide⟩, _, rfl, _, _, rfl, rfl, .inl ⟨by decide, by decide⟩, _, _, rfl, rfl, _, _, rfl, rfl, .inl ⟨_, rfl, _, _, rfl, rfl, (by decide : (0 : Int) < 2147483629), _, _, rfl, rfl, (by show 2 ≤ sizeLine; decide), fun q hq => rest (7 * (j : Int)) _ rfl _ rfl q hq⟩⟩⟩
abbrev s__law_pick : Stmt := top 37
theorem sc__law_pick : FnScope ["_law_pot_here", "_law_some"] ["_law_pot_here", "_law_some"] (defScope s__law_pick) := ⟨rfl, rfl, rfl, by decide +kernel, rfl, by decide +kernel, by decide +kernel⟩
theorem h_law_pick (B : Blts mg) (F : FunAt K mg "_law_pick" "_law_pick" s__law_pick) (h_law_draw : Has P w K mg base "_law_draw" 1 ["_law_pot_here", "_law_many"] spDraw) : Has P w K mg base "_law_pick" 2 ["_law_pot_here", "_law_some"] (spPick K) := by
  refine has_of F sc__law_pick (fun _ _ _ _ _ _ us hl => match us, hl with | [_, _], _ => rfl) (fun vs H Q E h => ?_) (fun f cdv A outer s H vs Q E hr h => ?_)
  · obtain ⟨p, n, k, rfl, _⟩ := h
    rfl
  · obtain ⟨p, l, xs, rfl, hp, hs, hne, hx, hlen, k⟩ := h
    refine ⟨_, (pss_one (ps_ret (pe_ix ix_list (pv 1) (pe_has h_law_draw (hr.mono (by decide)) (pa_cons (pv 0) (pa_cons (pe_callB call_len (by rfl) B.n_len PySem.boot_len (pa_cons (pv 1) pa_nil)) pa_nil))) (fun _ _ => rfl)))), ?_⟩
    have h0 : 0 < xs.length := List.length_pos_iff.mpr hx
    refine ⟨_, rfl, _, rfl, _, rfl, _, xs.length, rfl, .inl ⟨_, hs, rfl⟩, p, _, rfl, hp, by omega, by omega, fun d H' d0 d1 hp' e => ?_⟩
    have dl : d.toNat < xs.length := by omega
    exact ⟨l, xs, d, xs[d.toNat], rfl, rfl, e.sq hne hs, atI_at d0 (List.getElem?_eq_getElem dl), k _ _ (List.getElem_mem dl) hp' e⟩
end
end N

set_option maxHeartbeats 4000000
namespace N
open PySem L2
def spMixed (K : PySem.W.Frag) : Sp := fun vs H Q _ => ∃ (p l : Addr) (xs : List V), vs = [.ref p, .ref l] ∧ Pot H p ∧ SqL K H l xs ∧ l ≠ p ∧ xs.length < 1000 ∧
  ∀ q ys H', H q = none → H' q = some (.lst ys) → ys.Perm xs → Pot H' p → But p H H' → Q (.ref q) H'
theorem seqIndex_nat {d : Int} {n : Nat} (h0 : 0 ≤ d) (h1 : d < n) : seqIndex? d n = some d.toNat := by
  unfold seqIndex?
  have h2 : ¬ d < 0 := by omega
  simp [h2, h0, h1]
theorem erase_perm {α : Type} : ∀ {l : List α} {k : Nat} (h : k < l.length), (l[k] :: l.eraseIdx k).Perm l
  | a :: l, 0, _ => .refl _
  | a :: l, k + 1, h => by
    have h' : k < l.length := by simpa using h
    simp only [List.eraseIdx_cons_succ, List.getElem_cons_succ]
    exact (List.Perm.swap _ _ _).trans (.cons _ (erase_perm h'))
section
variable {P : Program} {w : World} {K : PySem.W.Frag} {mg : Str → Option Value} {base : Heap}
abbrev s__law_mixed : Stmt := top 38
theorem sc__law_mixed : FnScope ["_law_pot_here", "_law_given", "_law_left", "_law_mixed_here", "_law_one"] ["_law_pot_here", "_law_given"] (defScope s__law_mixed) := ⟨rfl, rfl, rfl, by decide +kernel, rfl, by decide +kernel, by decide +kernel⟩
theorem h_law_mixed (B : Blts mg) (F : FunAt K mg "_law_mixed" "_law_mixed" s__law_mixed) (h_law_draw : Has P w K mg base "_law_draw" 1 ["_law_pot_here", "_law_many"] spDraw) : Has P w K mg base "_law_mixed" 2 ["_law_pot_here", "_law_given"] (spMixed K) := by
  refine has_of F sc__law_mixed (fun _ _ _ _ _ _ us hl => match us, hl with | [_, _], _ => rfl) (fun vs H Q E h => ?_) (fun f cdv A outer s H vs Q E hr h => ?_)
  · obtain ⟨_, _, _, rfl, _⟩ := h
    rfl
  · obtain ⟨p, l, xs, rfl, hp, hl, hlp, hz, k⟩ := h
    refine ⟨_, (pss_cons (ps_par (i := 2) (j := 3) (by rfl) sc__law_mixed.nd rfl rfl (by decide) rfl rfl (pa_cons (pe_callTy call_list_of (by rfl) B.n_list (by decide +kernel) (pa_cons (pv 1) pa_nil)) (pa_cons (pe_lst pa_nil) pa_nil)) (by rfl))
      (pss_cons (ps_for PassesOwn.never rfl (pi_list (pv 1)) (pg_name (i := 4) sc__law_mixed.nd rfl (Or.inl rfl))
        (pss_one (ps_expr (pe_bm PySem.F.plainAttrs_list PySem.F.slot_list_append PySem.F.type_list_append mt_append (pv 3) (pa_cons (pe_bm PySem.F.plainAttrs_list PySem.F.slot_list_pop PySem.F.type_list_pop mt_popAt (pv 2) (pa_cons (pe_has h_law_draw (hr.mono (by decide)) (pa_cons (pv 0) (pa_cons (pe_callB call_len (by rfl) B.n_len PySem.boot_len (pa_cons (pv 2) pa_nil)) pa_nil))) pa_nil)) pa_nil)))))
      (pss_one (ps_ret (pv 3))))), ?_⟩
    refine ⟨_, rfl, l, xs, rfl, .inl hl, fun a na => ⟨by decide, fun b nb => ⟨_, _, rfl, ?_⟩⟩⟩
    have nba : b ≠ a := ne_of_none upd_same nb |>.symm
    have nb0 : H b = none := by rw [upd_ne nba] at nb; exact nb
    have nap : a ≠ p := hp.ne na
    have nbp : b ≠ p := hp.ne nb0
    let H2 : Hp := upd (upd H a (.lst xs)) b (.lst [])
    have e2 : But p H H2 := (But.new na).trans (But.new nb)
    refine ⟨_, rfl, l, rfl, ⟨xs, e2.sq hlp hl⟩, for_list (xs := xs) (fun i σ H' => ∃ left mx v, σ = [some (.ref p), some (.ref l), some (.ref a), some (.ref b), v] ∧ H' a = some (.lst left) ∧ H' b = some (.lst mx) ∧
      (mx ++ left).Perm xs ∧ mx.length = i ∧ Pot H' p ∧ But p H H')
      ⟨xs, [], none, rfl, (upd_ne nba.symm).trans upd_same, upd_same, .refl _, rfl, (hp.new na).new nb, e2⟩ (fun i σ H' _ h => ?_) (fun i x σ H' hx h => ?_) (fun σ H' h => ?_)⟩
    · obtain ⟨left, mx, v, rfl, _, _, _, _, _, e⟩ := h
      exact e.sq hlp hl
    · obtain ⟨left, mx, v, rfl, ha, hb, pm, hi, hp', e⟩ := h
      have hlen : mx.length + left.length = xs.length := by rw [← List.length_append]; exact pm.length_eq
      have hlt : i < xs.length := (List.getElem?_eq_some_iff.mp hx).1
      refine ⟨_, rfl, .inl ⟨rfl, mx, SqL.of hb⟩, _, rfl, .inl ⟨rfl, left, SqL.of ha⟩, _, rfl, _, rfl, _, left.length, rfl, .inl ⟨left, SqL.of ha, rfl⟩, ?_⟩
      refine ⟨p, left.length, rfl, hp', by omega, by omega, fun d H3 d0 d1 hp3 e3 => ?_⟩
      have ha3 : H3 a = some (.lst left) := e3 _ _ ha nap
      have hb3 : H3 b = some (.lst mx) := e3 _ _ hb nbp
      have hd : d.toNat < left.length := by omega
      refine ⟨a, left, d, d.toNat, left[d.toNat], rfl, rfl, ha3, by omega, by omega, ?_, List.getElem?_eq_getElem hd, ?_⟩
      · exact seqIndex_nat d0 d1
      · refine ⟨b, mx, left[d.toNat], rfl, rfl, (upd_ne nba).trans hb3, Nat.lt_of_lt_of_le (by omega : mx.length < 1000) (by decide), ?_⟩
        have e4 : But p H (upd (upd H3 a (.lst (left.eraseIdx d.toNat))) b (.lst (mx ++ [left[d.toNat]]))) := fun c u hc n => by
          have c1 : c ≠ a := fun z => by subst z; rw [na] at hc; cases hc
          have c2 : c ≠ b := fun z => by subst z; rw [nb0] at hc; cases hc
          rw [upd_ne c2, upd_ne c1]
          exact e3 _ _ (e _ _ hc n) n
        refine ⟨left.eraseIdx d.toNat, mx ++ [left[d.toNat]], _, rfl, (upd_ne nba.symm).trans upd_same, upd_same, ?_, by rw [List.length_append, hi]; rfl, ?_, e4⟩
        · refine List.Perm.trans ?_ pm
          rw [List.append_assoc]
          exact .append_left _ (erase_perm hd)
        · obtain ⟨x1, x2, hx, r⟩ := hp3
          exact ⟨x1, x2, by rw [upd_ne nbp.symm, upd_ne nap.symm]; exact hx, r⟩
    · obtain ⟨left, mx, v, rfl, ha, hb, pm, hi, hp', e⟩ := h
      have hlen : mx.length + left.length = xs.length := by rw [← List.length_append]; exact pm.length_eq
      have l0 : left = [] := List.length_eq_zero_iff.mp (by omega)
      subst l0
      rw [List.append_nil] at pm
      exact ⟨_, rfl, k b mx H' nb0 hb pm hp' e⟩
end
end N

set_option maxHeartbeats 4000000
namespace N
open PySem L2
/-- [draws of a pot for _ in range(n)] -/
theorem lc_draws {n : Nat} {p : Addr} {g : TG} {te : TE} {vs : List Nat} {σ : St} {H : Hp} {D : Addr} {Qd : Hp → Prop} (S : V → Prop) (hp : Pot H p) (nD : H D = none) (hn : n < 1000000)
    (hs : ∀ (i : Nat) H', i < n → Pot H' p → But p H H' → ∀ R : V → Hp → Prop, (∀ v H4, S v → Pot H4 p → But p H' H4 → R v H4) → g (.int (0 + i)) (wipe σ vs) H' fun σ2 H2 => wipe σ2 vs = wipe σ vs ∧ te σ2 H2 R)
    (hd : ∀ ys H', ys.length = n → (∀ y ∈ ys, S y) → Pot H' p → But p H H' → H' D = some (.lst ys) → Qd H') :
    ∃ W : Nat → Nat → Hp → Prop, (∃ m, W 0 m (upd H D (.lst []))) ∧ ∀ i m H, W i m H →
      ((Itr 0 n).stop i H ∧ Qd H) ∨ ((Itr 0 n).go i H ∧ ∃ Nx : Hp → Prop, (∀ H', Nx H' → ∃ m', m' < m ∧ W (i + 1) m' H') ∧ ∀ x H', (Itr 0 n).yld i H x H' → g x (wipe σ vs) H' fun σ2 H2 => wipe σ2 vs = wipe σ vs ∧ tYes σ2 H2 fun b H3 =>
        if b = true then te σ2 H3 fun y H4 => ∃ acc, H4 D = some (.lst acc) ∧ acc.length < sizeLine ∧ Nx (upd H4 D (.lst (acc ++ [y]))) else Nx H3) := by
  have nDp : D ≠ p := hp.ne nD
  refine lc_range (fun i H' => Pot H' p ∧ But p H H' ∧ ∃ ys, H' D = some (.lst ys) ∧ ys.length = i ∧ ∀ y ∈ ys, S y) ⟨hp.new nD, But.new nD, [], upd_same, rfl, fun _ h => nomatch h⟩ (fun i H1 hi h => ?_) (fun H' h => ?_)
  · obtain ⟨hp1, e1, ys, hD, hl, hy⟩ := h
    have q := hs i H1 hi hp1 e1 (fun y H4 => ∃ acc, H4 D = some (.lst acc) ∧ acc.length < sizeLine ∧ (Pot (upd H4 D (.lst (acc ++ [y]))) p ∧ But p H (upd H4 D (.lst (acc ++ [y]))) ∧ ∃ zs, (upd H4 D (.lst (acc ++ [y]))) D = some (.lst zs) ∧ zs.length = i + 1 ∧ ∀ z ∈ zs, S z)) fun v H4 sv hp4 e4 => by
      refine ⟨ys, e4 _ _ hD nDp, Nat.lt_of_lt_of_le (by omega : ys.length < 1000000) (by decide), ?_, fun b o hb hbp => ?_, ys ++ [v], upd_same, by rw [List.length_append, hl]; rfl, fun z hz => ?_⟩
      · obtain ⟨a, b, e, r⟩ := hp4
        exact ⟨a, b, (upd_ne nDp.symm).trans e, r⟩
      · rw [upd_ne (ne_of_none hb nD)]
        exact e4 _ _ (e1 _ _ hb hbp) hbp
      · rcases List.mem_append.mp hz with hz | hz
        · exact hy z hz
        · rw [List.mem_singleton.mp hz]; exact sv
    exact q
  · obtain ⟨hp1, e1, ys, hD, hl, hy⟩ := h
    exact hd ys H' hl hy hp1 e1 hD

/-- a loop over zip of two lists, the first no longer than the second -/
theorem for_zipS {K : PySem.W.Frag} {a b : Addr} {xs ys : List V} {g : TG} {tb : TS} {D : Ends} {σ : L2.St} {H : Hp} (hl : xs.length ≤ ys.length) (Pv : Nat → L2.St → Hp → Prop) (h0 : Pv 0 σ H) (hq : ∀ i σ H, Pv i σ H → SqL K H a xs ∧ SqL K H b ys)
    (hs : ∀ (i : Nat) (x y : V) (T : Addr) (σ : L2.St) (H : Hp), xs[i]? = some x → ys[i]? = some y → Pv i σ H → H T = none → g (.ref T) σ (upd H T (.tup [x, y])) fun σ2 H2 => tb { D with nx := Pv (i + 1), ct := Pv (i + 1), bk := D.nx } σ2 H2)
    (hd : ∀ σ H, Pv xs.length σ H → D.nx σ H) :
    ∃ W : Nat → Nat → L2.St → Hp → Prop, (∃ m, W 0 m σ H) ∧ ∀ i m σ H, W i m σ H →
      ((Itz K a b).stop i H ∧ D.nx σ H) ∨ ((Itz K a b).go i H ∧ ∃ N : L2.St → Hp → Prop, (∀ σ' H', N σ' H' → ∃ m', m' < m ∧ W (i + 1) m' σ' H') ∧ ∀ v H', (Itz K a b).yld i H v H' → g v σ H' fun σ2 H2 => tb { D with nx := N, ct := N, bk := D.nx } σ2 H2) := by
  refine ⟨fun i m σ H => m + i = xs.length ∧ Pv i σ H, ⟨xs.length, rfl, h0⟩, fun i m σ H w => ?_⟩
  obtain ⟨hm, p⟩ := w
  obtain ⟨qx, qy⟩ := hq i σ H p
  cases m with
  | zero =>
    have e : i = xs.length := by omega
    subst e
    exact .inl ⟨⟨xs, ys, qx, qy, .inl (Nat.le_refl _)⟩, hd σ H p⟩
  | succ m =>
    have i1 : i < xs.length := by omega
    have i2 : i < ys.length := by omega
    refine .inr ⟨⟨xs, ys, xs[i], ys[i], qx, qy, List.getElem?_eq_getElem i1, List.getElem?_eq_getElem i2⟩, Pv (i + 1), fun σ' H' p' => ⟨m, Nat.lt_succ_self _, by omega, p'⟩, fun v H' y => ?_⟩
    obtain ⟨T, x', y', rfl, hT, rfl, f1, f2⟩ := y
    exact hs i x' y' T σ H (f1 xs qx) (f2 ys qy) p hT
/-- ways that join behind a statement -/
theorem seq_cut {a b : TS} {D : Ends} {σ : St} {H : Hp} (J : St → Hp → Prop) (h1 : ∀ Z : St → Hp → Prop, (∀ σ' H', J σ' H' → Z σ' H') → a { D with nx := Z } σ H) (h2 : ∀ σ' H', J σ' H' → b D σ' H') : tSeq a b D σ H :=
  h1 _ h2
/-! ### what a book of kinds is -/
abbrev Trip := Str × Option Str × Option Str
structure Row where
  name : Str
  takes : Int
  makes : Int
  back : Option Str
  mirror : Option Str
  yarn : Int
def Row.trip (r : Row) : Trip := (r.name, r.back, r.mirror)
def ov : Option Str → V
  | none => .non
  | some s => .str s
/-- tuples stay -/
def KeepT (H H' : Hp) : Prop := ∀ c xs, H c = some (.tup xs) → H' c = some (.tup xs)
theorem KeepT.refl {H : Hp} : KeepT H H := fun _ _ h => h
theorem KeepT.trans {H H1 H2 : Hp} (a : KeepT H H1) (b : KeepT H1 H2) : KeepT H H2 := fun c xs h => b c xs (a c xs h)
theorem KeepT.new {H : Hp} {q : Addr} {o : HO} (hq : H q = none) : KeepT H (L2.upd H q o) := fun c xs h => (upd_ne (ne_of_none h hq)).trans h
theorem KeepT.mut {H : Hp} {q : Addr} {o u : HO} (hq : H q = some u) (nu : ∀ xs, u ≠ .tup xs) : KeepT H (L2.upd H q o) := fun c xs h => (upd_ne fun z => by subst z; rw [hq] at h; exact nu xs (Option.some.inj h)).trans h
theorem KeepT.but {H H' : Hp} {p : Addr} (hp : Pot H p) (e : But p H H') : KeepT H H' := fun c xs h => e c _ h fun z => by
  obtain ⟨a, b, q, _⟩ := hp
  subst z
  rw [q] at h
  cases h
def RowAt (H : Hp) (a : Addr) (r : Row) : Prop := H a = some (.tup [.int r.takes, .int r.makes, ov r.back, ov r.mirror, .int r.yarn])
def PairAt (H : Hp) (q : Addr) (r : Row) : Prop := ∃ a, H q = some (.tup [.str r.name, .ref a]) ∧ RowAt H a r
def TripAt (H : Hp) (q : Addr) (t : Trip) : Prop := H q = some (.tup [.str t.1, ov t.2.1, ov t.2.2])
theorem PairAt.keep {H H' : Hp} {q : Addr} {r : Row} (k : KeepT H H') (h : PairAt H q r) : PairAt H' q r := let ⟨a, e, z⟩ := h; ⟨a, k _ _ e, k _ _ z⟩
theorem TripAt.keep {H H' : Hp} {q : Addr} {t : Trip} (k : KeepT H H') (h : TripAt H q t) : TripAt H' q t := k _ _ h
theorem paired_imp {α β : Type} {F G : α → β → Prop} (h : ∀ a b, F a b → G a b) : ∀ {l : List α} {m : List β}, Paired F l m → Paired G l m
  | _, _, .nil => .nil
  | _, _, .cons x y => .cons (h _ _ x) (paired_imp h y)
theorem paired_get {α β : Type} {F : α → β → Prop} : ∀ {l : List α} {m : List β} {i : Nat} {a : α}, Paired F l m → l[i]? = some a → ∃ b, m[i]? = some b ∧ F a b
  | _, _, 0, _, .cons x y, h => by cases h; exact ⟨_, rfl, x⟩
  | _, _, i + 1, _, .cons x y, h => paired_get (i := i) y (by simpa using h)
theorem paired_len {α β : Type} {F : α → β → Prop} : ∀ {l : List α} {m : List β}, Paired F l m → l.length = m.length
  | _, _, .nil => rfl
  | _, _, .cons _ y => congrArg (· + 1) (paired_len y)
/-- kinds that belong together -/
structure TripOk (names : List Str) (both : Bool) (ts : List Trip) : Prop where
  ne : ts ≠ []
  few : ts.length ≤ 4
  first : ts.map (·.1) = names.take ts.length
  back : ∀ t ∈ ts, ∀ x, t.2.1 = some x → ∃ u ∈ ts, u.1 = x ∧ u.2.1 = some t.1
  mirror : ∀ t ∈ ts, ∀ x, t.2.2 = some x → ∃ u ∈ ts, u.1 = x ∧ u.2.2 = some t.1
  agree : ∀ t ∈ ts, ∀ x y, t.2.1 = some x → t.2.2 = some y → ∃ u ∈ ts, ∃ w ∈ ts, u.1 = x ∧ w.1 = y ∧ u.2.2 ≠ none ∧ u.2.2 = w.2.1
  sides : both = true → ∀ t ∈ ts, t.2.1 ≠ none ∧ t.2.2 ≠ none
structure GroupOk (names : List Str) (t m : Int) (both : Bool) (rs : List Row) : Prop where
  trip : TripOk names both (rs.map Row.trip)
  row : ∀ r ∈ rs, r.takes = t ∧ r.makes = m ∧ 0 ≤ r.yarn ∧ r.yarn ≤ 3
theorem ok4 {a b c d : Str} {ns : List Str} {both : Bool} : TripOk (a :: b :: c :: d :: ns) both [(a, some b, some c), (b, some a, some d), (c, some d, some a), (d, some c, some b)] := by
  constructor <;> simp
theorem ok2 {a b : Str} {ns : List Str} {both : Bool} : TripOk (a :: b :: ns) both [(a, some b, some a), (b, some a, some b)] := by
  constructor <;> simp
theorem ok3 {a b : Str} {ns : List Str} {both : Bool} : TripOk (a :: b :: ns) both [(a, some b, some b), (b, some a, some a)] := by
  constructor <;> simp
theorem ok5 {a b : Str} {ns : List Str} : TripOk (a :: b :: ns) false [(a, none, some b), (b, none, some a)] := by
  constructor <;> simp
theorem ok1 {a : Str} {ns : List Str} {both : Bool} {x y : Option Str} (hx : x = none ∨ x = some a) (hy : y = none ∨ y = some a) (h : both = true → x ≠ none ∧ y ≠ none) : TripOk (a :: ns) both [(a, x, y)] := by
  rcases hx with rfl | rfl <;> rcases hy with rfl | rfl <;> constructor <;> simp_all
def spGroup (K : PySem.W.Frag) : Sp := fun vs H Q _ => ∃ (p l sh : Addr) (names : List Str) (t m : Int) (both : Bool), vs = [.ref p, .ref l, .ref sh, .bl both] ∧ Pot H p ∧ SqL K H l (names.map V.str) ∧ l ≠ p ∧ H sh = some (.tup [.int t, .int m]) ∧
  names ≠ [] ∧ names.length ≤ 1000 ∧ ∀ q ps rs H', H q = none → H' q = some (.lst (ps.map V.ref)) → Paired (PairAt H') ps rs → GroupOk names t m both rs → Pot H' p → But p H H' → Q (.ref q) H'
end N

set_option maxHeartbeats 4000000
namespace N
open PySem L2
theorem cons1 {α : Type} {l : List α} (h : l ≠ []) : ∃ a r, l = a :: r := by
  cases l with
  | nil => exact absurd rfl h
  | cons a r => exact ⟨a, r, rfl⟩
theorem cons2 {α : Type} {l : List α} (h : 2 ≤ l.length) : ∃ a b r, l = a :: b :: r := by
  obtain ⟨a, r, rfl⟩ := cons1 (l := l) (fun z => by rw [z] at h; cases h)
  obtain ⟨b, r, rfl⟩ := cons1 (l := r) (fun z => by rw [z] at h; simp at h)
  exact ⟨a, b, r, rfl⟩
theorem cons4 {α : Type} {l : List α} (h : 4 ≤ l.length) : ∃ a b c d r, l = a :: b :: c :: d :: r := by
  obtain ⟨a, b, r, rfl⟩ := cons2 (l := l) (by omega)
  obtain ⟨c, d, r, rfl⟩ := cons2 (l := r) (by simp at h; omega)
  exact ⟨a, b, c, d, r, rfl⟩
/-- a test, and the two ways behind it -/
theorem ifs_cut {tt : TT} {t u : TS} {D : Ends} {σ : St} {H : Hp} (J : Bool → Hp → Prop) (h1 : ∀ R : Bool → Hp → Prop, (∀ b H', J b H' → R b H') → tt σ H R) (h2 : ∀ H', J true H' → t D σ H') (h3 : ∀ H', J false H' → u D σ H') : tIfS tt t u D σ H :=
  h1 _ fun b H' j => by
    cases b
    · exact h3 H' j
    · exact h2 H' j
/-- what stays while a group is made -/
structure Fac (p y : Addr) (ys : List Int) (H H' : Hp) : Prop where
  pot : Pot H' p
  but : But p H H'
  yarn : H' y = some (.lst (ys.map V.int))
theorem Fac.new {p y q : Addr} {ys : List Int} {H H' : Hp} {o : HO} (f : Fac p y ys H H') (hq : H' q = none) : Fac p y ys H (L2.upd H' q o) :=
  ⟨f.pot.new hq, f.but.trans (But.new hq), (upd_ne (ne_of_none f.yarn hq)).trans f.yarn⟩
theorem Fac.mut {p y q : Addr} {ys : List Int} {H H' : Hp} {o : HO} (f : Fac p y ys H H') (hq : H q = none) (qp : q ≠ p) (qy : q ≠ y) : Fac p y ys H (L2.upd H' q o) := by
  obtain ⟨⟨a, b, e, r⟩, e2, e3⟩ := f
  exact ⟨⟨a, b, (upd_ne qp.symm).trans e, r⟩, fun c u hc n => (upd_ne (ne_of_none hc hq)).trans (e2 c u hc n), (upd_ne qy.symm).trans e3⟩
theorem map_at {α β : Type} {f : α → β} {l : List α} {i : Nat} {x : β} (h : (l.map f)[i]? = some x) : ∃ a, l[i]? = some a ∧ x = f a := by
  rw [List.getElem?_map] at h
  cases e : l[i]? with
  | none => rw [e] at h; cases h
  | some a => rw [e] at h; cases h; exact ⟨a, rfl, rfl⟩
theorem ints_of {S : Int → Prop} : ∀ {ys : List V}, (∀ y ∈ ys, ∃ z : Int, y = .int z ∧ S z) → ∃ zs : List Int, ys = zs.map V.int ∧ ∀ z ∈ zs, S z
  | [], _ => ⟨[], rfl, fun _ h => nomatch h⟩
  | y :: ys, h => by
    obtain ⟨z, rfl, hz⟩ := h y (.head _)
    obtain ⟨zs, rfl, hzs⟩ := ints_of fun y hy => h y (.tail _ hy)
    exact ⟨z :: zs, rfl, fun x hx => by
      rcases List.mem_cons.mp hx with e | hx
      · rw [e]; exact hz
      · exact hzs x hx⟩
section
variable {P : Program} {w : World} {K : PySem.W.Frag} {mg : Str → Option Value} {base : Heap}
abbrev s__law_group : Stmt := top 39
theorem sc__law_group : FnScope ["_law_pot_here", "_law_names", "_law_shape", "_law_both_sides", "_law_way", "_law_yarns", "_law_turn", "_law_a", "_law_b", "_law_c", "_law_d", "_law_rows", "_law_found", "_law_row_here", "_law_thread"] ["_law_pot_here", "_law_names", "_law_shape", "_law_both_sides"] (defScope s__law_group) := ⟨rfl, rfl, rfl, by decide +kernel, rfl, by decide +kernel, by decide +kernel⟩
theorem h_law_group (B : Blts mg) (F : FunAt K mg "_law_group" "_law_group" s__law_group) (h_law_draw : Has P w K mg base "_law_draw" 1 ["_law_pot_here", "_law_many"] spDraw) : Has P w K mg base "_law_group" 2 ["_law_pot_here", "_law_names", "_law_shape", "_law_both_sides"] (spGroup K) := by
  refine has_of F sc__law_group (fun _ _ _ _ _ _ us hl => match us, hl with | [_, _, _, _], _ => rfl) (fun vs H Q E h => ?_) (fun f cdv A outer s H vs Q E hr h => ?_)
  · obtain ⟨_, _, _, _, _, _, _, rfl, _⟩ := h
    rfl
  · obtain ⟨p, l, sh, names, t, m, both, rfl, hp, hl, hlp, hsh, hne, hz, k⟩ := h
    refine ⟨_, (pss_cons (ps_set (i := 4) sc__law_group.nd rfl (Or.inl rfl) (pe_ifExp (pt_truth (pv 3) (by intro _; rfl)) (pe_has h_law_draw (hr.mono (by decide)) (pa_cons (pv 0) (pa_cons pe_int pa_nil))) (pe_has h_law_draw (hr.mono (by decide)) (pa_cons (pv 0) (pa_cons pe_int pa_nil)))))
      (pss_cons (ps_setLc (i := 5) (own := [("_law_turn", 6)]) rfl sc__law_group.nd rfl rfl (sw_true rfl rfl rfl (by decide +kernel)) (pi_range1 (by rfl) B.n_range (pa_cons pe_int pa_nil)) (blkOk_by (own := [("_law_turn", 6)]) (N := ["_law_pot_here", "_law_names", "_law_shape", "_law_both_sides", "_law_way", "_law_yarns", "_law_turn", "_law_a", "_law_b", "_law_c", "_law_d", "_law_rows", "_law_found", "_law_row_here", "_law_thread"]) (sc := defScope s__law_group) (by decide +kernel)) (fun _ _ _ _ _ => by exact (pg_name (i := 6) sc__law_group.nd rfl (Or.inl rfl))) (fun _ _ _ _ _ => by exact pts_nil) (fun _ _ _ _ _ => by exact (pe_has h_law_draw (hr.mono (by decide)) (pa_cons (pv 0) (pa_cons pe_int pa_nil)))))
      (pss_cons (ps_if (PW.pt (pw_and (pt_cmpR op_eq (pv 4) pe_int (by first | exact nomark _ | rfl)) (pw_and1 (pt_cmpR op_ge (pe_callB call_len (by rfl) B.n_len PySem.boot_len (pa_cons (pv 1) pa_nil)) pe_int (by first | exact nomark _ | rfl))))) (pss_cons (ps_asg (pe_tup (pa_cons (pe_ix ix_list (pv 1) pe_int (fun _ _ => rfl)) (pa_cons (pe_ix ix_list (pv 1) pe_int (fun _ _ => rfl)) (pa_cons (pe_ix ix_list (pv 1) pe_int (fun _ _ => rfl)) (pa_cons (pe_ix ix_list (pv 1) pe_int (fun _ _ => rfl)) pa_nil))))) (pg_tup rfl (pgs_cons (pg_name (i := 7) sc__law_group.nd rfl (Or.inl rfl)) (pgs_cons (pg_name (i := 8) sc__law_group.nd rfl (Or.inl rfl)) (pgs_cons (pg_name (i := 9) sc__law_group.nd rfl (Or.inl rfl)) (pgs_cons (pg_name (i := 10) sc__law_group.nd rfl (Or.inl rfl)) pgs_nil))))))
        (pss_one (ps_set (i := 11) sc__law_group.nd rfl (Or.inl rfl) (pe_lst (pa_cons (pe_tup (pa_cons (pv 7) (pa_cons (pv 8) (pa_cons (pv 9) pa_nil)))) (pa_cons (pe_tup (pa_cons (pv 8) (pa_cons (pv 7) (pa_cons (pv 10) pa_nil)))) (pa_cons (pe_tup (pa_cons (pv 9) (pa_cons (pv 10) (pa_cons (pv 7) pa_nil)))) (pa_cons (pe_tup (pa_cons (pv 10) (pa_cons (pv 9) (pa_cons (pv 8) pa_nil)))) pa_nil))))))))
        (pss_one (ps_if (PW.pt (pw_and (pt_cmpR op_in_seq (pv 4) (pe_tup (pa_cons pe_int (pa_cons pe_int pa_nil))) (by first | exact nomark _ | rfl)) (pw_and1 (pt_cmpR op_ge (pe_callB call_len (by rfl) B.n_len PySem.boot_len (pa_cons (pv 1) pa_nil)) pe_int (by first | exact nomark _ | rfl))))) (pss_cons (ps_par (i := 7) (j := 8) (by rfl) sc__law_group.nd rfl rfl (by decide) rfl rfl (pa_cons (pe_ix ix_list (pv 1) pe_int (fun _ _ => rfl)) (pa_cons (pe_ix ix_list (pv 1) pe_int (fun _ _ => rfl)) pa_nil)) (by rfl))
          (pss_one (ps_set (i := 11) sc__law_group.nd rfl (Or.inl rfl) (pe_ifExp (pt_cmpR op_eq (pv 4) pe_int (by first | exact nomark _ | rfl)) (pe_lst (pa_cons (pe_tup (pa_cons (pv 7) (pa_cons (pv 8) (pa_cons (pv 7) pa_nil)))) (pa_cons (pe_tup (pa_cons (pv 8) (pa_cons (pv 7) (pa_cons (pv 8) pa_nil)))) pa_nil))) (pe_lst (pa_cons (pe_tup (pa_cons (pv 7) (pa_cons (pv 8) (pa_cons (pv 8) pa_nil)))) (pa_cons (pe_tup (pa_cons (pv 8) (pa_cons (pv 7) (pa_cons (pv 7) pa_nil)))) pa_nil)))))))
          (pss_one (ps_if (PW.pt (pw_and (pt_cmpR op_eq (pv 4) pe_int (by first | exact nomark _ | rfl)) (pw_and1 (pt_cmpR op_ge (pe_callB call_len (by rfl) B.n_len PySem.boot_len (pa_cons (pv 1) pa_nil)) pe_int (by first | exact nomark _ | rfl))))) (pss_one (ps_set (i := 11) sc__law_group.nd rfl (Or.inl rfl) (pe_lst (pa_cons (pe_tup (pa_cons (pe_ix ix_list (pv 1) pe_int (fun _ _ => rfl)) (pa_cons pe_non (pa_cons (pe_ix ix_list (pv 1) pe_int (fun _ _ => rfl)) pa_nil)))) (pa_cons (pe_tup (pa_cons (pe_ix ix_list (pv 1) pe_int (fun _ _ => rfl)) (pa_cons pe_non (pa_cons (pe_ix ix_list (pv 1) pe_int (fun _ _ => rfl)) pa_nil)))) pa_nil)))))
            (pss_one (ps_set (i := 11) sc__law_group.nd rfl (Or.inl rfl) (pe_lst (pa_cons (pe_tup (pa_cons (pe_ix ix_list (pv 1) pe_int (fun _ _ => rfl)) (pa_cons (pe_ifExp (pt_cmpR op_lt (pv 4) pe_int (by first | exact nomark _ | rfl)) (pe_ix ix_list (pv 1) pe_int (fun _ _ => rfl)) pe_non) (pa_cons (pe_ifExp (pt_cmpR op_ne (pv 4) pe_int (by first | exact nomark _ | rfl)) (pe_ix ix_list (pv 1) pe_int (fun _ _ => rfl)) pe_non) pa_nil)))) pa_nil)))))))))
      (pss_cons (ps_set (i := 12) sc__law_group.nd rfl (Or.inl rfl) (pe_lst pa_nil))
      (pss_cons (ps_for PassesOwn.never rfl (pi_zip (by rfl) B.n_zip (pa_cons (pv 11) (pa_cons (pv 5) pa_nil))) (pg_tup rfl (pgs_cons (pg_name (i := 13) sc__law_group.nd rfl (Or.inl rfl)) (pgs_cons (pg_name (i := 14) sc__law_group.nd rfl (Or.inl rfl)) pgs_nil)))
        (pss_one (ps_expr (pe_bm PySem.F.plainAttrs_list PySem.F.slot_list_append PySem.F.type_list_append mt_append (pv 12) (pa_cons (pe_tup (pa_cons (pe_ix ix_tup (pv 13) pe_int (fun _ _ => rfl)) (pa_cons (pe_op op_catA (pv 2) (pe_tup (pa_cons (pe_ix ix_tup (pv 13) pe_int (fun _ _ => rfl)) (pa_cons (pe_ix ix_tup (pv 13) pe_int (fun _ _ => rfl)) (pa_cons (pv 14) pa_nil))))) pa_nil))) pa_nil)))))
      (pss_one (ps_ret (pv 12)))))))), ?_⟩
    refine seq_cut (fun σ' H' => ∃ d : Int, σ' = [some (.ref p), some (.ref l), some (.ref sh), some (.bl both), some (.int d), none, none, none, none, none, none, none, none, none, none] ∧ 0 ≤ d ∧ d < 7 ∧ (both = true → d < 4) ∧ Pot H' p ∧ But p H H') (fun Z hZ => ?_) ?_
    · refine ⟨_, rfl, both, rfl, ite2 (fun c => ?_) (fun c => ?_)⟩
      · exact ⟨_, rfl, p, 4, rfl, hp, by decide, by decide, fun d H1 a b hp1 e1 => hZ _ _ ⟨d, rfl, a, by omega, fun _ => b, hp1, e1⟩⟩
      · exact ⟨_, rfl, p, 7, rfl, hp, by decide, by decide, fun d H1 a b hp1 e1 => hZ _ _ ⟨d, rfl, a, b, fun z => absurd z (by simpa using c), hp1, e1⟩⟩
    · rintro _ H1 ⟨d, rfl, d0, d1, db, hp1, e1⟩
      refine seq_cut (fun σ' H' => ∃ (y : Addr) (ys : List Int) (v6 : Option V), σ' = [some (.ref p), some (.ref l), some (.ref sh), some (.bl both), some (.int d), some (.ref y), v6, none, none, none, none, none, none, none, none] ∧ y ≠ p ∧ H' y = some (.lst (ys.map V.int)) ∧ ys.length = 4 ∧ (∀ z ∈ ys, 0 ≤ z ∧ z ≤ 3) ∧ Pot H' p ∧ But p H H') (fun Z hZ => ?_) ?_
      · refine ⟨4, rfl, by decide, by decide, fun D nD => lc_draws (S := fun v => ∃ z : Int, v = .int z ∧ 0 ≤ z ∧ z ≤ 3) hp1 nD (by decide) (fun i H' hi hp' e' R hR => ?_) (fun ys H' hl hy hp' e' hD => ?_)⟩
        · exact ⟨rfl, _, rfl, p, 4, rfl, hp', by decide, by decide, fun d H4 a b hp4 e4 => hR _ _ ⟨d, rfl, a, by omega⟩ hp4 e4⟩
        · obtain ⟨zs, rfl, hzs⟩ := ints_of hy
          exact hZ _ _ ⟨D, zs, none, rfl, hp1.ne nD, hD, by simpa using hl, hzs, hp', e1.trans e'⟩
      · rintro _ H2 ⟨y, ys, v6, rfl, yp, hy, yl, y3, hp2, e2⟩
        refine seq_cut (fun σ' H' => ∃ (r : Addr) (rts : List Addr) (ts : List Trip) (v7 v8 v9 v10 : Option V), σ' = [some (.ref p), some (.ref l), some (.ref sh), some (.bl both), some (.int d), some (.ref y), v6, v7, v8, v9, v10, some (.ref r), none, none, none] ∧
          r ≠ p ∧ H' r = some (.lst (rts.map V.ref)) ∧ Paired (TripAt H') rts ts ∧ TripOk names both ts ∧ Pot H' p ∧ But p H H' ∧ H' y = some (.lst (ys.map V.int))) (fun Z hZ => ?_) ?_
        · have f2 : Fac p y ys H H2 := ⟨hp2, e2, hy⟩
          refine ifs_cut (fun b H' => Fac p y ys H H' ∧ (b = true → 4 ≤ names.length)) (fun R hR => ?_) (fun Hc f => ?_) (fun Hc f => ?_)
          · refine ⟨_, rfl, rfl, _, rfl, ite2 (fun c1 => ?_) (fun c1 => hR _ _ ⟨f2, fun z => nomatch z⟩)⟩
            refine ⟨_, rfl, _, names.length, rfl, .inl ⟨_, f2.but.sq hlp hl, (List.length_map _).symm⟩, _, _, rfl, rfl, _, rfl, hR _ _ ⟨f2, fun z => ?_⟩⟩
            have z' := of_decide_eq_true z
            omega
          · obtain ⟨f, n4⟩ := f
            have n4 := n4 rfl
            obtain ⟨a, b, c, e, ns, rfl⟩ := cons4 n4
            have hn := f.but.sq hlp hl
            refine ⟨_, rfl, l, _, 0, .str a, rfl, rfl, hn, atI_at (by decide) rfl, _, rfl, l, _, 1, .str b, rfl, rfl, hn, atI_at (by decide) rfl, _, rfl, l, _, 2, .str c, rfl, rfl, hn, atI_at (by decide) rfl, _, rfl, l, _, 3, .str e, rfl, rfl, hn, atI_at (by decide) rfl, (by show 4 ≤ sizeLine; decide), fun q nq => ⟨q, _, rfl, SqT.of upd_same, rfl, _, _, rfl, _, _, rfl, _, _, rfl, _, _, rfl, rfl, ?_⟩⟩
            have f0 := f.new (o := .tup [.str a, .str b, .str c, .str e]) nq
            generalize upd Hc q (.tup [.str a, .str b, .str c, .str e]) = H0 at f0
            refine ⟨_, rfl, _, rfl, _, rfl, (by show 3 ≤ sizeLine; decide), fun t1 n1 => ⟨_, rfl, _, rfl, _, rfl, (by show 3 ≤ sizeLine; decide), fun t2 n2 => ⟨_, rfl, _, rfl, _, rfl, (by show 3 ≤ sizeLine; decide), fun t3 n3 => ⟨_, rfl, _, rfl, _, rfl, (by show 3 ≤ sizeLine; decide), fun t4 n4 => ⟨(by show 4 ≤ sizeLine; decide), fun r nr => ?_⟩⟩⟩⟩⟩
            have f1 := (((f0.new n1).new n2).new n3).new (o := .tup [.str e, .str c, .str b]) n4
            refine hZ _ _ ⟨r, [t1, t2, t3, t4], _, _, _, _, _, rfl, f1.pot.ne nr, upd_same, .cons ?_ (.cons ?_ (.cons ?_ (.cons ?_ .nil))), ok4, (f1.new nr).pot, (f1.new nr).but, (f1.new nr).yarn⟩
            · exact KeepT.new nr _ _ (KeepT.new n4 _ _ (KeepT.new n3 _ _ (KeepT.new n2 _ _ upd_same)))
            · exact KeepT.new nr _ _ (KeepT.new n4 _ _ (KeepT.new n3 _ _ upd_same))
            · exact KeepT.new nr _ _ (KeepT.new n4 _ _ upd_same)
            · exact KeepT.new nr _ _ upd_same
          · obtain ⟨f, _⟩ := f
            refine ifs_cut (fun b H' => Fac p y ys H H' ∧ (b = true → 2 ≤ names.length)) (fun R hR => ?_) (fun Hc f => ?_) (fun Hc f => ?_)
            · refine ⟨_, rfl, (by show 2 ≤ sizeLine; decide), fun q nq => ⟨q, _, rfl, .inr (SqT.of upd_same), rfl, rfl, _, rfl, ite2 (fun c1 => ?_) (fun c1 => hR _ _ ⟨f.new nq, fun z => nomatch z⟩)⟩⟩
              refine ⟨_, rfl, _, names.length, rfl, .inl ⟨_, (f.new nq).but.sq hlp hl, (List.length_map _).symm⟩, _, _, rfl, rfl, _, rfl, hR _ _ ⟨f.new nq, fun z => ?_⟩⟩
              have z' := of_decide_eq_true z
              omega
            · obtain ⟨f, n2⟩ := f
              obtain ⟨a, b, ns, rfl⟩ := cons2 (n2 rfl)
              have hn := f.but.sq hlp hl
              refine ⟨_, rfl, l, _, 0, .str a, rfl, rfl, hn, atI_at (by decide) rfl, _, rfl, l, _, 1, .str b, rfl, rfl, hn, atI_at (by decide) rfl, _, _, rfl, _, rfl, rfl, _, rfl, ite2 (fun _ => ?_) (fun _ => ?_)⟩
              · refine ⟨_, rfl, _, rfl, _, rfl, (by show 3 ≤ sizeLine; decide), fun t1 n1 => ⟨_, rfl, _, rfl, _, rfl, (by show 3 ≤ sizeLine; decide), fun t2 n2 => ⟨(by show 2 ≤ sizeLine; decide), fun r nr => ?_⟩⟩⟩
                have f1 := (f.new n1).new (o := .tup [.str b, .str a, .str b]) n2
                exact hZ _ _ ⟨r, [t1, t2], _, _, _, _, _, rfl, f1.pot.ne nr, upd_same, .cons (KeepT.new nr _ _ (KeepT.new n2 _ _ upd_same)) (.cons (KeepT.new nr _ _ upd_same) .nil), ok2, (f1.new nr).pot, (f1.new nr).but, (f1.new nr).yarn⟩
              · refine ⟨_, rfl, _, rfl, _, rfl, (by show 3 ≤ sizeLine; decide), fun t1 n1 => ⟨_, rfl, _, rfl, _, rfl, (by show 3 ≤ sizeLine; decide), fun t2 n2 => ⟨(by show 2 ≤ sizeLine; decide), fun r nr => ?_⟩⟩⟩
                have f1 := (f.new n1).new (o := .tup [.str b, .str a, .str a]) n2
                exact hZ _ _ ⟨r, [t1, t2], _, _, _, _, _, rfl, f1.pot.ne nr, upd_same, .cons (KeepT.new nr _ _ (KeepT.new n2 _ _ upd_same)) (.cons (KeepT.new nr _ _ upd_same) .nil), ok3, (f1.new nr).pot, (f1.new nr).but, (f1.new nr).yarn⟩
            · obtain ⟨f, _⟩ := f
              refine ifs_cut (fun b H' => Fac p y ys H H' ∧ (b = true → 2 ≤ names.length ∧ both = false)) (fun R hR => ?_) (fun Hc f => ?_) (fun Hc f => ?_)
              · refine ⟨_, rfl, rfl, _, rfl, ite2 (fun c1 => ?_) (fun c1 => hR _ _ ⟨f, fun z => nomatch z⟩)⟩
                refine ⟨_, rfl, _, names.length, rfl, .inl ⟨_, f.but.sq hlp hl, (List.length_map _).symm⟩, _, _, rfl, rfl, _, rfl, hR _ _ ⟨f, fun z => ?_⟩⟩
                have z' := of_decide_eq_true z
                have d4 : d = 4 := by
                  have := of_decide_eq_true c1
                  injection this
                refine ⟨by omega, Bool.eq_false_iff.mpr fun hb => ?_⟩
                have := db hb
                omega
              · obtain ⟨f, n2⟩ := f
                obtain ⟨n2, bf⟩ := n2 rfl
                obtain ⟨a, b, ns, rfl⟩ := cons2 n2
                subst bf
                have hn := f.but.sq hlp hl
                refine ⟨_, rfl, l, _, 0, .str a, rfl, rfl, hn, atI_at (by decide) rfl, _, rfl, l, _, 1, .str b, rfl, rfl, hn, atI_at (by decide) rfl, (by show 3 ≤ sizeLine; decide), fun t1 n1 => ⟨_, rfl, l, _, 1, .str b, rfl, rfl, ((f.new n1).but.sq hlp hl), atI_at (by decide) rfl, _, rfl, l, _, 0, .str a, rfl, rfl, ((f.new n1).but.sq hlp hl), atI_at (by decide) rfl, (by show 3 ≤ sizeLine; decide), fun t2 n2 => ⟨(by show 2 ≤ sizeLine; decide), fun r nr => ?_⟩⟩⟩
                have f1 := (f.new n1).new (o := .tup [.str b, .non, .str a]) n2
                exact hZ _ _ ⟨r, [t1, t2], _, _, _, _, _, rfl, f1.pot.ne nr, upd_same, .cons (KeepT.new nr _ _ (KeepT.new n2 _ _ upd_same)) (.cons (KeepT.new nr _ _ upd_same) .nil), ok5, (f1.new nr).pot, (f1.new nr).but, (f1.new nr).yarn⟩
              · obtain ⟨f, _⟩ := f
                obtain ⟨a, ns, rfl⟩ := cons1 hne
                have hn := f.but.sq hlp hl
                refine ⟨_, rfl, l, _, 0, .str a, rfl, rfl, hn, atI_at (by decide) rfl, _, rfl, _, _, rfl, rfl, _, rfl, ?_⟩
                have last : ∀ x z : Option Str, (x = none ∨ x = some a) → (z = none ∨ z = some a) → (both = true → x ≠ none ∧ z ≠ none) → ∀ t1, Hc t1 = none → ∀ r, (upd Hc t1 (.tup [.str a, ov x, ov z])) r = none →
                    Z [some (.ref p), some (.ref l), some (.ref sh), some (.bl both), some (.int d), some (.ref y), v6, none, none, none, none, some (.ref r), none, none, none] (upd (upd Hc t1 (.tup [.str a, ov x, ov z])) r (.lst [.ref t1])) := fun x z hx hz hb t1 n1 r nr => by
                  have f1 := f.new (o := .tup [.str a, ov x, ov z]) n1
                  exact hZ _ _ ⟨r, [t1], [(a, x, z)], none, none, none, none, rfl, f1.pot.ne nr, upd_same, .cons (KeepT.new nr _ _ upd_same) .nil, ok1 hx hz hb, (f1.new nr).pot, (f1.new nr).but, (f1.new nr).yarn⟩
                refine ite2 (fun c5 => ?_) (fun c5 => ?_)
                · refine ⟨_, rfl, l, _, 0, .str a, rfl, rfl, hn, atI_at (by decide) rfl, _, rfl, rfl, _, rfl, ite2 (fun c6 => ?_) (fun c6 => ?_)⟩
                  · exact ⟨_, rfl, l, _, 0, .str a, rfl, rfl, hn, atI_at (by decide) rfl, (by show 3 ≤ sizeLine; decide), fun t1 n1 => ⟨(by show 1 ≤ sizeLine; decide), fun r nr => last (some a) (some a) (.inr rfl) (.inr rfl) (fun _ => ⟨nofun, nofun⟩) t1 n1 r nr⟩⟩
                  · refine ⟨(by show 3 ≤ sizeLine; decide), fun t1 n1 => ⟨(by show 1 ≤ sizeLine; decide), fun r nr => last (some a) none (.inr rfl) (.inl rfl) (fun hb => ?_) t1 n1 r nr⟩⟩
                    have := db hb
                    exfalso
                    apply c6
                    simp
                    omega
                · have nb : ∀ {Y : Prop}, both = true → Y := fun {Y} hb => by
                    have h5 := db hb
                    exfalso
                    apply c5
                    simp
                    omega
                  refine ⟨_, rfl, rfl, _, rfl, ite2 (fun c6 => ?_) (fun c6 => ?_)⟩
                  · exact ⟨_, rfl, l, _, 0, .str a, rfl, rfl, hn, atI_at (by decide) rfl, (by show 3 ≤ sizeLine; decide), fun t1 n1 => ⟨(by show 1 ≤ sizeLine; decide), fun r nr => last none (some a) (.inl rfl) (.inr rfl) (fun hb => nb hb) t1 n1 r nr⟩⟩
                  · exact ⟨(by show 3 ≤ sizeLine; decide), fun t1 n1 => ⟨(by show 1 ≤ sizeLine; decide), fun r nr => last none none (.inl rfl) (.inl rfl) (fun hb => nb hb) t1 n1 r nr⟩⟩
        · rintro _ H3 ⟨r, rts, ts, v7, v8, v9, v10, rfl, rp, hr3, hts, ok, hp3, e3, hy3⟩
          refine ⟨by decide, fun q nq => ?_⟩
          have qp : q ≠ p := hp3.ne nq
          have nq0 : H q = none := e3.free qp nq
          have qy : q ≠ y := fun z => by subst z; rw [hy3] at nq; cases nq
          have qr : q ≠ r := fun z => by subst z; rw [hr3] at nq; cases nq
          have hsp : sh ≠ p := fun z => by
            obtain ⟨_, _, e, _⟩ := hp
            subst z
            rw [hsh] at e
            cases e
          have f3 : Fac p y ys H H3 := ⟨hp3, e3, hy3⟩
          have lenr : rts.length = ts.length := paired_len hts
          have few := ok.few
          have le4 : (rts.map V.ref).length ≤ (ys.map V.int).length := by
            simp only [List.length_map]
            omega
          refine ⟨_, rfl, _, rfl, r, y, rts.map V.ref, ys.map V.int, rfl, SqL.of ((upd_ne qr.symm).trans hr3), SqL.of ((upd_ne qy.symm).trans hy3), for_zipS le4 (fun i σ H' => ∃ (ps : List Addr) (rs : List Row) (v13 v14 : Option V),
            σ = [some (.ref p), some (.ref l), some (.ref sh), some (.bl both), some (.int d), some (.ref y), v6, v7, v8, v9, v10, some (.ref r), some (.ref q), v13, v14] ∧ H' q = some (.lst (ps.map V.ref)) ∧ Paired (PairAt H') ps rs ∧ rs.map Row.trip = ts.take i ∧
            (∀ x ∈ rs, x.takes = t ∧ x.makes = m ∧ 0 ≤ x.yarn ∧ x.yarn ≤ 3) ∧ ps.length = i ∧ Fac p y ys H H' ∧ H' r = some (.lst (rts.map V.ref)) ∧ Paired (TripAt H') rts ts)
            ⟨[], [], none, none, rfl, upd_same, .nil, rfl, (fun _ h => nomatch h), rfl, f3.new nq, (upd_ne qr.symm).trans hr3, paired_imp (fun _ _ => TripAt.keep (KeepT.new nq)) hts⟩ (fun i σ H' h => ?_) (fun i x z T σ H' hx hz h nT => ?_) (fun σ H' h => ?_)⟩
          · obtain ⟨ps, rs, v13, v14, rfl, _, _, _, _, _, f, hr', _⟩ := h
            exact ⟨SqL.of hr', SqL.of f.yarn⟩
          · obtain ⟨ps, rs, v13, v14, rfl, hq', hps, hrs, hall, hlen, f, hr', hts'⟩ := h
            obtain ⟨a, ha, rfl⟩ := map_at hx
            obtain ⟨w, hw, rfl⟩ := map_at hz
            obtain ⟨⟨n, b, c⟩, hti, hta⟩ := paired_get hts' ha
            have hT : ∀ {o : HO}, (upd H' T o) a = some (.tup [.str n, ov b, ov c]) := (KeepT.new nT) _ _ hta
            have hsh' : H' sh = some (.tup [.int t, .int m]) := f.but _ _ hsh hsp
            refine ⟨T, _, rfl, SqT.of upd_same, rfl, _, _, rfl, _, _, rfl, rfl, ?_⟩
            have kq : ∀ {o : HO}, (upd H' T o) q = some (.lst (ps.map V.ref)) := (upd_ne (ne_of_none hq' nT)).trans hq'
            refine ⟨_, rfl, .inl ⟨rfl, _, SqL.of kq⟩, _, rfl, a, _, 0, .str n, rfl, rfl, SqT.of hT, rfl, _, rfl, _, rfl, a, _, 1, ov b, rfl, rfl, SqT.of hT, rfl, _, rfl, a, _, 2, ov c, rfl, rfl, SqT.of hT, rfl, _, rfl, (by show 3 ≤ sizeLine; decide), fun u nu =>
              ⟨sh, u, _, _, rfl, rfl, SqT.of (KeepT.new nu _ _ (KeepT.new nT _ _ hsh')), SqT.of upd_same, (by show 5 ≤ sizeLine; decide), (fun z => nomatch z), (fun _ z => nomatch z), fun _ _ e ne => ⟨(by show 2 ≤ sizeLine; decide), fun g ng => ?_⟩⟩⟩
            have s4 := (((Same.new (o := .tup [.ref a, .int w]) nT).trans (Same.new (o := .tup [ov b, ov c, .int w]) nu)).trans (Same.new (o := .tup ([.int t, .int m] ++ [ov b, ov c, .int w])) ne)).trans (Same.new (o := .tup [.str n, .ref e]) ng)
            have kq2 := s4 _ _ hq'
            have f4 := (((f.new (o := .tup [.ref a, .int w]) nT).new (o := .tup [ov b, ov c, .int w]) nu).new (o := .tup ([.int t, .int m] ++ [ov b, ov c, .int w])) ne).new (o := .tup [.str n, .ref e]) ng
            have k4 : KeepT H' _ := fun c xs h => s4 c _ h
            refine ⟨q, ps.map V.ref, .ref g, rfl, rfl, kq2, ?_, ?_⟩
            · rw [List.length_map]
              exact Nat.lt_of_lt_of_le (by have := (List.getElem?_eq_some_iff.mp ha).1; omega : ps.length < 1000000) (by decide)
            · have k5 : KeepT H' _ := k4.trans (KeepT.mut (o := .lst (ps.map V.ref ++ [.ref g])) kq2 (fun _ z => nomatch z))
              refine ⟨ps ++ [g], rs ++ [⟨n, t, m, b, c, w⟩], _, _, rfl, ?_, ?_, ?_, ?_, ?_, f4.mut nq0 qp qy, ?_, paired_imp (fun _ _ => TripAt.keep k5) hts'⟩
              · rw [List.map_append]
                exact upd_same
              · refine (paired_imp (fun _ _ => PairAt.keep k5) hps).snoc ⟨e, ?_, ?_⟩
                · exact KeepT.mut kq2 (fun _ z => nomatch z) _ _ upd_same
                · exact KeepT.mut kq2 (fun _ z => nomatch z) _ _ (KeepT.new ng _ _ upd_same)
              · rw [List.map_append, hrs, List.take_add_one, hti]
                rfl
              · intro x hx
                rcases List.mem_append.mp hx with hx | hx
                · exact hall x hx
                · rw [List.mem_singleton.mp hx]
                  have := y3 w (List.mem_of_getElem? hw)
                  exact ⟨rfl, rfl, this.1, this.2⟩
              · rw [List.length_append, hlen]
                rfl
              · exact (upd_ne qr.symm).trans (s4 _ _ hr')
          · obtain ⟨ps, rs, v13, v14, rfl, hq', hps, hrs, hall, hlen, f, hr', hts'⟩ := h
            rw [List.length_map, lenr, List.take_length] at hrs
            exact ⟨_, rfl, k q ps rs H' nq0 hq' hps ⟨by rw [hrs]; exact ok, hall⟩ f.pot f.but⟩
end
end N

set_option maxHeartbeats 4000000
namespace N
open PySem L2
/-! ### dicts of new keys -/
theorem valV_no {k : Key} : ∀ {kvs : List (Key × V)}, (∀ q ∈ kvs, q.1 ≠ k) → valV kvs k = none
  | [], _ => rfl
  | q :: r, h => by
    rw [valV_neg (h q (.head _))]
    exact valV_no fun x hx => h x (.tail _ hx)
theorem mergeK_app : ∀ {more kvs : List (Key × V)}, (∀ x ∈ more, ∀ q ∈ kvs, q.1 ≠ x.1) → (more.map (·.1)).Nodup → mergeK kvs more = kvs ++ more
  | [], kvs, _, _ => (List.append_nil _).symm
  | x :: r, kvs, h, nd => by
    show mergeK (putK kvs x.1 x.2) r = _
    rw [putK_new _ (valV_no fun q hq => h x (.head _) q hq)]
    rw [List.map_cons, List.nodup_cons] at nd
    rw [mergeK_app (fun y hy q hq => ?_) nd.2, List.append_assoc]
    · rfl
    · rcases List.mem_append.mp hq with hq | hq
      · exact h y (.tail _ hy) q hq
      · rw [List.mem_singleton.mp hq]
        exact fun z => nd.1 (z ▸ List.mem_map_of_mem hy)
theorem nodup_map {α β : Type} {f : α → β} (inj : ∀ a b, f a = f b → a = b) : ∀ {l : List α}, l.Nodup → (l.map f).Nodup
  | [], _ => .nil
  | a :: l, h => by
    rw [List.nodup_cons] at h
    rw [List.map_cons, List.nodup_cons]
    refine ⟨fun z => ?_, nodup_map inj h.2⟩
    obtain ⟨b, hb, e⟩ := List.mem_map.mp z
    exact h.1 (inj _ _ e ▸ hb)
def KvAt (H : Hp) (kv : Key × V) (r : Row) : Prop := ∃ a, kv = (.inr r.name, .ref a) ∧ RowAt H a r
theorem KvAt.keep {H H' : Hp} {q : Key × V} {r : Row} (k : KeepT H H') (h : KvAt H q r) : KvAt H' q r := let ⟨a, e, z⟩ := h; ⟨a, e, k _ _ z⟩
theorem kvs_keys {H : Hp} : ∀ {kvs : List (Key × V)} {rs : List Row}, Paired (KvAt H) kvs rs → kvs.map (·.1) = rs.map fun r => (.inr r.name : Key)
  | _, _, .nil => rfl
  | _, _, .cons ⟨_, e, _⟩ y => by rw [List.map_cons, List.map_cons, kvs_keys y, e]
theorem kvs_of {K : PySem.W.Frag} {H : Hp} : ∀ {ps : List Addr} {rs : List Row}, Paired (PairAt H) ps rs → ∃ kvs : List (Key × V), Paired (fun p kv => SqT K H p [kV kv.1, kv.2]) ps kvs ∧ Paired (KvAt H) kvs rs
  | _, _, .nil => ⟨[], .nil, .nil⟩
  | _, _, .cons (b := r) ⟨a, e, ra⟩ y => by
    obtain ⟨kvs, h1, h2⟩ := kvs_of (K := K) y
    exact ⟨(.inr r.name, .ref a) :: kvs, .cons (SqT.of e) h1, .cons ⟨a, rfl, ra⟩ h2⟩
theorem paired_app {α β : Type} {F : α → β → Prop} : ∀ {l l' : List α} {m m' : List β}, Paired F l m → Paired F l' m' → Paired F (l ++ l') (m ++ m')
  | _, _, _, _, .nil, h => h
  | _, _, _, _, .cons x y, h => .cons x (paired_app y h)
/-! ### books -/
def ten : List Str := ["k", "p", "yo", "ktog", "ssk", "zz", "abcdefgh", "a", "end", "to"]
def shapes : List (Int × Int) := [(2, 1), (0, 1), (1, 2), (1, 0), (3, 1), (1, 1), (2, 2), (6, 5)]
/-- what holds of a part of a book, and of the whole -/
structure PartOk (both : Bool) (rs : List Row) : Prop where
  back : ∀ r ∈ rs, ∀ x, r.back = some x → ∃ u ∈ rs, u.name = x ∧ u.back = some r.name ∧ u.takes = r.takes ∧ u.makes = r.makes
  mirror : ∀ r ∈ rs, ∀ x, r.mirror = some x → ∃ u ∈ rs, u.name = x ∧ u.mirror = some r.name ∧ u.takes = r.takes ∧ u.makes = r.makes
  agree : ∀ r ∈ rs, ∀ x y, r.back = some x → r.mirror = some y → ∃ u ∈ rs, ∃ w ∈ rs, u.name = x ∧ w.name = y ∧ u.mirror ≠ none ∧ u.mirror = w.back
  sides : both = true → ∀ r ∈ rs, r.back ≠ none ∧ r.mirror ≠ none
  shape : ∀ r ∈ rs, (r.takes, r.makes) ∈ shapes
  yarn : ∀ r ∈ rs, 0 ≤ r.yarn ∧ r.yarn ≤ 3
theorem PartOk.nil {both : Bool} : PartOk both [] := by constructor <;> intros <;> contradiction
theorem PartOk.app {both : Bool} {rs ss : List Row} (a : PartOk both rs) (b : PartOk both ss) : PartOk both (rs ++ ss) where
  back r hr x hx := by
    rcases List.mem_append.mp hr with h | h
    · obtain ⟨u, hu, z⟩ := a.back r h x hx; exact ⟨u, List.mem_append_left _ hu, z⟩
    · obtain ⟨u, hu, z⟩ := b.back r h x hx; exact ⟨u, List.mem_append_right _ hu, z⟩
  mirror r hr x hx := by
    rcases List.mem_append.mp hr with h | h
    · obtain ⟨u, hu, z⟩ := a.mirror r h x hx; exact ⟨u, List.mem_append_left _ hu, z⟩
    · obtain ⟨u, hu, z⟩ := b.mirror r h x hx; exact ⟨u, List.mem_append_right _ hu, z⟩
  agree r hr x y hx hy := by
    rcases List.mem_append.mp hr with h | h
    · obtain ⟨u, hu, w, hw, z⟩ := a.agree r h x y hx hy; exact ⟨u, List.mem_append_left _ hu, w, List.mem_append_left _ hw, z⟩
    · obtain ⟨u, hu, w, hw, z⟩ := b.agree r h x y hx hy; exact ⟨u, List.mem_append_right _ hu, w, List.mem_append_right _ hw, z⟩
  sides hb r hr := (List.mem_append.mp hr).elim (a.sides hb r) (b.sides hb r)
  shape r hr := (List.mem_append.mp hr).elim (a.shape r) (b.shape r)
  yarn r hr := (List.mem_append.mp hr).elim (a.yarn r) (b.yarn r)
theorem GroupOk.part {names : List Str} {t m : Int} {both : Bool} {rs : List Row} (g : GroupOk names t m both rs) (hs : (t, m) ∈ shapes) : PartOk both rs := by
  have up : ∀ {u : Trip}, u ∈ rs.map Row.trip → ∃ r ∈ rs, r.trip = u := fun h => List.mem_map.mp h
  have dn : ∀ {r : Row}, r ∈ rs → r.trip ∈ rs.map Row.trip := fun h => List.mem_map_of_mem h
  refine ⟨fun r hr x hx => ?_, fun r hr x hx => ?_, fun r hr x y hx hy => ?_, fun hb r hr => g.trip.sides hb _ (dn hr), fun r hr => ?_, fun r hr => ?_⟩
  · obtain ⟨u, hu, e1, e2⟩ := g.trip.back _ (dn hr) x hx
    obtain ⟨w, hw, rfl⟩ := up hu
    exact ⟨w, hw, e1, e2, by rw [(g.row w hw).1, (g.row r hr).1], by rw [(g.row w hw).2.1, (g.row r hr).2.1]⟩
  · obtain ⟨u, hu, e1, e2⟩ := g.trip.mirror _ (dn hr) x hx
    obtain ⟨w, hw, rfl⟩ := up hu
    exact ⟨w, hw, e1, e2, by rw [(g.row w hw).1, (g.row r hr).1], by rw [(g.row w hw).2.1, (g.row r hr).2.1]⟩
  · obtain ⟨u, hu, w, hw, z⟩ := g.trip.agree _ (dn hr) x y hx hy
    obtain ⟨u', hu', rfl⟩ := up hu
    obtain ⟨w', hw', rfl⟩ := up hw
    exact ⟨u', hu', w', hw', z⟩
  · rw [(g.row r hr).1, (g.row r hr).2.1]
    exact hs
  · exact (g.row r hr).2.2
structure BookOk (both : Bool) (rs : List Row) : Prop where
  part : PartOk both rs
  names : (rs.map (·.name)).Perm ten
  plain : ∃ r ∈ rs, r.takes = 1 ∧ r.makes = 1
def spBook : Sp := fun vs H Q _ => ∃ (p : Addr) (both : Bool), vs = [.ref p, .bl both] ∧ Pot H p ∧
  ∀ d kvs rs H', H d = none → H' d = some (.dK kvs) → Paired (KvAt H') kvs rs → BookOk both rs → Pot H' p → But p H H' → Q (.ref d) H'
theorem eqv_nil (ds : List PyData) : PyData.eqv (.list ds) (.list []) = ds.isEmpty := by
  cases ds <;> rfl
theorem cut_from {xs : List V} {k : Nat} (h : k ≤ xs.length) : cutV xs (some (k : Int)) none = xs.drop k := by
  unfold cutV
  rw [HT.sIx_nat, HT.sIx_none, Nat.min_eq_left h]
  exact List.take_of_length_le (by rw [List.length_drop]; exact Nat.le_refl _)
theorem strs_of : ∀ {ys : List V}, (∀ y ∈ ys, ∃ s : Str, y = .str s) → ∃ ss : List Str, ys = ss.map V.str
  | [], _ => ⟨[], rfl⟩
  | y :: ys, h => by
    obtain ⟨s, rfl⟩ := h y (.head _)
    obtain ⟨ss, rfl⟩ := strs_of fun y hy => h y (.tail _ hy)
    exact ⟨s :: ss, rfl⟩
def unstr : V → Str
  | .str s => s
  | _ => ""
theorem perm_strs {ys : List V} {ss : List Str} (h : ys.Perm (ss.map V.str)) : ∃ ms : List Str, ys = ms.map V.str ∧ ms.Perm ss := by
  obtain ⟨ms, rfl⟩ := strs_of (ys := ys) fun y hy => by
    obtain ⟨s, _, e⟩ := List.mem_map.mp (h.mem_iff.mp hy)
    exact ⟨s, e.symm⟩
  refine ⟨ms, rfl, ?_⟩
  have q := h.map unstr
  rw [List.map_map, List.map_map] at q
  have e : unstr ∘ V.str = id := rfl
  rw [e, List.map_id, List.map_id] at q
  exact q
theorem dp_strs {K : PySem.W.Frag} {H : Hp} : ∀ ss : List Str, DpAll K H (ss.map V.str) (ss.map PyData.str)
  | [] => .nil
  | _ :: ss => .cons (.str _) (dp_strs ss)
theorem lay_strs : ∀ {ss : List Str}, (∀ s ∈ ss, PyData.strOk s = true) → PyData.canLayAll0 (ss.map PyData.str) = true ∧ PyData.depthAll (ss.map PyData.str) = 0
  | [], _ => ⟨rfl, rfl⟩
  | s :: ss, h => by
    obtain ⟨a, b⟩ := lay_strs (ss := ss) fun x hx => h x (.tail _ hx)
    exact ⟨by simp [PyData.canLayAll0, PyData.canLay0, a, h s (.head _)], by simp [PyData.depthAll, PyData.depth, b]⟩
theorem shaped_strs {ss : List Str} (h : ∀ s ∈ ss, PyData.strOk s = true) : SeqAt.shaped (.list (ss.map PyData.str)) = true := by
  obtain ⟨a, b⟩ := lay_strs h
  simp [SeqAt.shaped, PyData.canLay0, PyData.depth, a, b]
theorem ten_ok : ∀ s ∈ ten, PyData.strOk s = true := by decide +kernel
theorem ten_nodup : ten.Nodup := by decide +kernel
def ShapeAt (H : Hp) (u : Addr) (s : Int × Int) : Prop := H u = some (.tup [.int s.1, .int s.2])
/-- what stands while the book is made -/
structure Inn (p nl d sl : Addr) (rem : List Str) (kvs : List (Key × V)) (rs : List Row) (us : List Addr) (H H' : Hp) : Prop where
  names : H' nl = some (.lst (rem.map V.str))
  found : H' d = some (.dK kvs)
  rows : Paired (KvAt H') kvs rs
  pot : Pot H' p
  but : But p H H'
  menu : H' sl = some (.lst (us.map V.ref))
  shape : Paired (ShapeAt H') us shapes
theorem Inn.step {p nl d sl : Addr} {rem : List Str} {kvs : List (Key × V)} {rs : List Row} {us : List Addr} {H H1 H2 : Hp} (i : Inn p nl d sl rem kvs rs us H H1) (np : nl ≠ p) (dp : d ≠ p) (sp : sl ≠ p) (e : But p H1 H2) (hp : Pot H2 p) : Inn p nl d sl rem kvs rs us H H2 :=
  ⟨e _ _ i.names np, e _ _ i.found dp, paired_imp (fun _ _ => KvAt.keep (KeepT.but i.pot e)) i.rows, hp, i.but.trans e, e _ _ i.menu sp, paired_imp (fun _ _ h => KeepT.but i.pot e _ _ h) i.shape⟩
section
variable {P : Program} {w : World} {K : PySem.W.Frag} {mg : Str → Option Value} {base : Heap}
abbrev s__law_book : Stmt := top 40
theorem sc__law_book : FnScope ["_law_pot_here", "_law_both_sides", "_law_names", "_law_found", "_law_shapes", "_law_shape", "_law_some"] ["_law_pot_here", "_law_both_sides"] (defScope s__law_book) := ⟨rfl, rfl, rfl, by decide +kernel, rfl, by decide +kernel, by decide +kernel⟩
theorem h_law_book (B : Blts mg) (F : FunAt K mg "_law_book" "_law_book" s__law_book) (h_law_pick : Has P w K mg base "_law_pick" 2 ["_law_pot_here", "_law_some"] (spPick K)) (h_law_mixed : Has P w K mg base "_law_mixed" 2 ["_law_pot_here", "_law_given"] (spMixed K))
    (h_law_group : Has P w K mg base "_law_group" 2 ["_law_pot_here", "_law_names", "_law_shape", "_law_both_sides"] (spGroup K)) : Has P w K mg base "_law_book" 3 ["_law_pot_here", "_law_both_sides"] spBook := by
  refine has_of F sc__law_book (fun _ _ _ _ _ _ us hl => match us, hl with | [_, _], _ => rfl) (fun vs H Q E h => ?_) (fun f cdv A outer s H vs Q E hr h => ?_)
  · obtain ⟨_, _, rfl, _⟩ := h
    rfl
  · obtain ⟨p, both, rfl, hp, k⟩ := h
    refine ⟨_, (pss_cons (ps_par (i := 2) (j := 3) (by rfl) sc__law_book.nd rfl rfl (by decide) rfl rfl (pa_cons (pe_has h_law_mixed (hr.mono (by decide)) (pa_cons (pv 0) (pa_cons (pe_lst (pa_cons pe_str (pa_cons pe_str (pa_cons pe_str (pa_cons pe_str (pa_cons pe_str (pa_cons pe_str (pa_cons pe_str (pa_cons pe_str (pa_cons pe_str (pa_cons pe_str pa_nil))))))))))) pa_nil))) (pa_cons pe_dnewK pa_nil)) (by rfl))
      (pss_cons (ps_set (i := 4) sc__law_book.nd rfl (Or.inl rfl) (pe_lst (pa_cons (pe_tup (pa_cons pe_int (pa_cons pe_int pa_nil))) (pa_cons (pe_tup (pa_cons pe_int (pa_cons pe_int pa_nil))) (pa_cons (pe_tup (pa_cons pe_int (pa_cons pe_int pa_nil))) (pa_cons (pe_tup (pa_cons pe_int (pa_cons pe_int pa_nil))) (pa_cons (pe_tup (pa_cons pe_int (pa_cons pe_int pa_nil))) (pa_cons (pe_tup (pa_cons pe_int (pa_cons pe_int pa_nil))) (pa_cons (pe_tup (pa_cons pe_int (pa_cons pe_int pa_nil))) (pa_cons (pe_tup (pa_cons pe_int (pa_cons pe_int pa_nil))) pa_nil))))))))))
      (pss_cons (ps_while PassesOwn.never (pt_cmpR (op_neD hr.units) (pv 2) (pe_lst pa_nil) (by first | exact nomark _ | rfl))
        (pss_cons (ps_set (i := 5) sc__law_book.nd rfl (Or.inl rfl) (pe_ifExp (pt_cmpR (op_eqNone hr.units0) (pv 3) pe_dnewK (by first | exact nomark _ | rfl)) (pe_tup (pa_cons pe_int (pa_cons pe_int pa_nil))) (pe_has h_law_pick (hr.mono (by decide)) (pa_cons (pv 0) (pa_cons (pv 4) pa_nil)))))
        (pss_cons (ps_set (i := 6) sc__law_book.nd rfl (Or.inl rfl) (pe_has h_law_group (hr.mono (by decide)) (pa_cons (pv 0) (pa_cons (pv 2) (pa_cons (pv 5) (pa_cons (pv 1) pa_nil))))))
        (pss_cons (ps_expr (pe_bm PySem.F.plainAttrs_dict PySem.F.slot_dict_update PySem.F.type_dict_update mt_update (pv 3) (pa_cons (pe_callTy (call_dictP rfl) (by rfl) B.n_dict (by decide +kernel) (pa_cons (pv 6) pa_nil)) pa_nil)))
        (pss_one (ps_set (i := 2) sc__law_book.nd rfl (Or.inl rfl) (pe_slice sl_list (pv 2) (po_some (pe_callB call_len (by rfl) B.n_len PySem.boot_len (pa_cons (pv 6) pa_nil))) po_none)))))))
      (pss_one (ps_ret (pv 3)))))), ?_⟩
    refine ⟨_, rfl, (by show 10 ≤ sizeLine; decide), fun a na => ⟨p, a, ten.map V.str, rfl, hp.new na, SqL.of upd_same, hp.ne na, by decide, fun nl ys H1 n1 h1 pm hp1 e1 d nd => ⟨_, _, rfl, ?_⟩⟩⟩
    obtain ⟨mx, rfl, pt⟩ := perm_strs pm
    clear pm
    have e1' : But p H H1 := (But.new na).trans e1
    have nlp : nl ≠ p := (hp.new na).ne n1
    have ndp : d ≠ p := hp1.ne nd
    have ok : ∀ s ∈ mx, PyData.strOk s = true := fun s hs => ten_ok s (pt.mem_iff.mp hs)
    have nod : mx.Nodup := pt.nodup_iff.mpr ten_nodup
    have s0 := Same.new (o := .dK []) nd
    generalize hH2 : upd H1 d (.dK []) = H2 at s0
    have hd2 : H2 d = some (.dK []) := by rw [← hH2]; exact upd_same
    have hp2 : Pot H2 p := by rw [← hH2]; exact hp1.new nd
    refine ⟨(by show 2 ≤ sizeLine; decide), fun u1 n1 => ⟨(by show 2 ≤ sizeLine; decide), fun u2 n2 => ⟨(by show 2 ≤ sizeLine; decide), fun u3 n3 => ⟨(by show 2 ≤ sizeLine; decide), fun u4 n4 => ⟨(by show 2 ≤ sizeLine; decide), fun u5 n5 => ⟨(by show 2 ≤ sizeLine; decide), fun u6 n6 => ⟨(by show 2 ≤ sizeLine; decide), fun u7 n7 => ⟨(by show 2 ≤ sizeLine; decide), fun u8 n8 => ⟨(by show 8 ≤ sizeLine; decide), fun sl nsl => ?_⟩⟩⟩⟩⟩⟩⟩⟩⟩
    have q1 := Same.new (o := .tup [.int 2, .int 1]) n1
    have q2 := Same.new (o := .tup [.int 0, .int 1]) n2
    have q3 := Same.new (o := .tup [.int 1, .int 2]) n3
    have q4 := Same.new (o := .tup [.int 1, .int 0]) n4
    have q5 := Same.new (o := .tup [.int 3, .int 1]) n5
    have q6 := Same.new (o := .tup [.int 1, .int 1]) n6
    have q7 := Same.new (o := .tup [.int 2, .int 2]) n7
    have q8 := Same.new (o := .tup [.int 6, .int 5]) n8
    have q9 := Same.new (o := .lst [.ref u1, .ref u2, .ref u3, .ref u4, .ref u5, .ref u6, .ref u7, .ref u8]) nsl
    have p8 : Pot _ p := (((((((hp2.new (o := .tup [.int 2, .int 1]) n1).new (o := .tup [.int 0, .int 1]) n2).new (o := .tup [.int 1, .int 2]) n3).new (o := .tup [.int 1, .int 0]) n4).new (o := .tup [.int 3, .int 1]) n5).new (o := .tup [.int 1, .int 1]) n6).new (o := .tup [.int 2, .int 2]) n7).new (o := .tup [.int 6, .int 5]) n8
    have slp : sl ≠ p := p8.ne nsl
    have p9 : Pot _ p := p8.new (o := .lst [.ref u1, .ref u2, .ref u3, .ref u4, .ref u5, .ref u6, .ref u7, .ref u8]) nsl
    have s29 : Same H2 _ := q1.trans (q2.trans (q3.trans (q4.trans (q5.trans (q6.trans (q7.trans (q8.trans q9)))))))
    have i0 : Inn p nl d sl mx [] [] [u1, u2, u3, u4, u5, u6, u7, u8] H _ := ⟨s29 _ _ (s0 _ _ h1), s29 _ _ hd2, .nil, p9, e1'.trans ((But.of s0).trans (But.of s29)), upd_same,
      .cons ((q2.trans (q3.trans (q4.trans (q5.trans (q6.trans (q7.trans (q8.trans q9))))))) _ _ upd_same) (.cons ((q3.trans (q4.trans (q5.trans (q6.trans (q7.trans (q8.trans q9)))))) _ _ upd_same) (.cons ((q4.trans (q5.trans (q6.trans (q7.trans (q8.trans q9))))) _ _ upd_same)
        (.cons ((q5.trans (q6.trans (q7.trans (q8.trans q9)))) _ _ upd_same) (.cons ((q6.trans (q7.trans (q8.trans q9))) _ _ upd_same) (.cons ((q7.trans (q8.trans q9)) _ _ upd_same) (.cons ((q8.trans q9) _ _ upd_same) (.cons (q9 _ _ upd_same) .nil)))))))⟩
    have nd0 : H d = none := e1'.free ndp nd
    generalize [u1, u2, u3, u4, u5, u6, u7, u8] = us at i0
    refine ⟨fun m σ H' => ∃ (nl : Addr) (rem : List Str) (kvs : List (Key × V)) (rs : List Row) (v5 v6 : Option V), σ = [some (.ref p), some (.bl both), some (.ref nl), some (.ref d), some (.ref sl), v5, v6] ∧ m = rem.length ∧ nl ≠ p ∧
      Inn p nl d sl rem kvs rs us H H' ∧ rs.map (·.name) ++ rem = mx ∧ PartOk both rs ∧ (rs ≠ [] → ∃ r ∈ rs, r.takes = 1 ∧ r.makes = 1), ⟨mx.length, nl, mx, [], [], none, none, rfl, rfl, nlp, i0, rfl, PartOk.nil, fun z => absurd rfl z⟩, fun m σ H3 h => ?_⟩
    obtain ⟨nl, rem, kvs, rs, v5, v6, rfl, rfl, nlp, i3, hmx, part, plain⟩ := h
    have okr : ∀ s ∈ rem, PyData.strOk s = true := fun s hs => ok s (hmx ▸ List.mem_append_right _ hs)
    refine ⟨_, rfl, by decide, fun z nz => ⟨.list (rem.map .str), .list [], .lst (SqL.of (Same.new nz _ _ i3.names)) (dp_strs rem), .lst (SqL.of upd_same) .nil, shaped_strs okr, rfl, _, rfl, ?_⟩⟩
    rw [eqv_nil]
    have i4 := i3.step nlp ndp slp (But.new (o := .lst []) nz) (i3.pot.new nz)
    generalize upd H3 z (.lst []) = H4 at i4
    refine ite2 (fun c => ?_) (fun c => ?_)
    · have rne : rem ≠ [] := fun z => by subst z; cases c
      refine ⟨_, fun σ' H' h => h, ?_⟩
      refine seq_cut (fun σ' H' => ∃ (sh : Addr) (t m : Int), σ' = [some (.ref p), some (.bl both), some (.ref nl), some (.ref d), some (.ref sl), some (.ref sh), v6] ∧ H' sh = some (.tup [.int t, .int m]) ∧ (t, m) ∈ shapes ∧ (rs = [] → t = 1 ∧ m = 1) ∧ Inn p nl d sl rem kvs rs us H H') (fun Z hZ => ?_) ?_
      · refine ⟨_, rfl, fun q nq => ⟨d, q, kvs, rfl, rfl, Same.new nq _ _ i4.found, upd_same, _, rfl, ite2 (fun c2 => ?_) (fun c2 => ?_)⟩⟩
        · have i5 := i4.step nlp ndp slp (But.new (o := .dK []) nq) (i4.pot.new nq)
          refine ⟨(by show 2 ≤ sizeLine; decide), fun u nu => hZ _ _ ⟨u, 1, 1, rfl, upd_same, by decide, fun _ => ⟨rfl, rfl⟩, i5.step nlp ndp slp (But.new nu) (i5.pot.new nu)⟩⟩
        · have i5 := i4.step nlp ndp slp (But.new (o := .dK []) nq) (i4.pot.new nq)
          refine ⟨_, rfl, _, rfl, p, sl, us.map V.ref, rfl, i5.pot, SqL.of i5.menu, slp, ?_, ?_, fun v H6 hv hp6 e6 => ?_⟩
          · intro z
            have l8 := paired_len i5.shape
            have l0 : us = [] := List.map_eq_nil_iff.mp z
            rw [l0] at l8
            cases l8
          · rw [List.length_map, paired_len i5.shape]
            decide
          · obtain ⟨u, hu, rfl⟩ := List.mem_map.mp hv
            obtain ⟨j, hj⟩ := List.getElem?_of_mem hu
            have i6 := i5.step nlp ndp slp e6 hp6
            obtain ⟨⟨t, m⟩, hs, ha⟩ := paired_get i6.shape hj
            refine hZ _ _ ⟨u, t, m, rfl, ha, List.mem_of_getElem? hs, fun z => ?_, i6⟩
            subst z
            have l0 := paired_len i5.rows
            cases kvs with
            | nil => exact absurd rfl c2
            | cons => cases l0
      · rintro _ H5 ⟨sh, t, m, rfl, hsh, hshape, first, i5⟩
        have rlen : rem.length ≤ 10 := by
          have l := pt.length_eq
          rw [← hmx, List.length_append] at l
          have l10 : ten.length = 10 := rfl
          omega
        refine ⟨_, rfl, _, rfl, _, rfl, _, rfl, p, nl, sh, rem, t, m, both, rfl, i5.pot, SqL.of i5.names, nlp, hsh, rne, by omega, fun q ps gs H6 nq hq hps hg hp6 e6 => ?_⟩
        have i6 := i5.step nlp ndp slp e6 hp6
        obtain ⟨kv2, hkv, hrows⟩ := kvs_of (K := K) hps
        have qp : q ≠ p := i5.pot.ne nq
        have names2 : gs.map (·.name) = rem.take gs.length := by
          have z := hg.trip.first
          rw [List.map_map, List.length_map] at z
          exact z
        have nodr : (rs.map (·.name) ++ rem).Nodup := by rw [hmx]; exact nod
        have nod2 : (rs.map (·.name) ++ gs.map (·.name)).Nodup := by
          rw [names2]
          exact nodr.sublist (.append (.refl _) (List.take_sublist _ _))
        rw [List.nodup_append] at nod2
        have keys1 := kvs_keys i6.rows
        have keys2 := kvs_keys hrows
        have inj : ∀ {a b : Str}, (.inr a : Key) = .inr b → a = b := fun h => Sum.inr.inj h
        have nodk : (kv2.map (·.1)).Nodup := by
          rw [keys2]
          have e : (gs.map fun r => (.inr r.name : Key)) = (gs.map (·.name)).map Sum.inr := by rw [List.map_map]; rfl
          rw [e]
          exact nodup_map (fun _ _ => inj) nod2.2.1
        have m1 : mergeK [] kv2 = kv2 := by rw [mergeK_app (kvs := []) (fun _ _ _ h => nomatch h) nodk]; rfl
        have m2 : mergeK kvs kv2 = kvs ++ kv2 := mergeK_app (fun x hx y hy e => by
          have a := List.mem_map_of_mem (f := (·.1)) hx
          have b := List.mem_map_of_mem (f := (·.1)) hy
          rw [keys2] at a
          rw [keys1] at b
          obtain ⟨r1, h1, e1⟩ := List.mem_map.mp a
          obtain ⟨r2, h2, e2⟩ := List.mem_map.mp b
          exact nod2.2.2 _ (List.mem_map_of_mem h2) _ (List.mem_map_of_mem h1) (inj (e2.trans (e.trans e1.symm)))) nodk
        refine ⟨_, rfl, .inr (.inr (.inl ⟨rfl, .inl ⟨kvs, i6.found⟩⟩)), _, rfl, q, ps, kv2, rfl, SqL.of hq, hkv, fun o no => ⟨d, o, kvs, mergeK [] kv2, rfl, rfl, ?_, Same.new no _ _ i6.found, upd_same, ?_, ?_⟩⟩
        · exact fun z => by subst z; rw [i6.found] at no; cases no
        · have l1 := paired_len i6.rows
          have l2 := paired_len hrows
          have l3 := hg.trip.few
          have l4 := pt.length_eq
          have l10 : ten.length = 10 := rfl
          rw [List.length_map] at l3
          rw [← hmx, List.length_append, List.length_map] at l4
          rw [m1]
          exact Nat.le_trans (by omega : kvs.length + kv2.length ≤ 14) (by decide)
        · rw [m1, m2]
          have i7 := i6.step nlp ndp slp (But.new (o := .dK kv2) no) (i6.pot.new no)
          have hq7 := Same.new (o := .dK kv2) no _ _ hq
          have hr7 := paired_imp (fun _ _ => KvAt.keep (KeepT.new (o := .dK kv2) no)) hrows
          generalize upd H6 o (.dK kv2) = H7 at i7 hq7 hr7
          have nld : nl ≠ d := fun z => by
            have a := i7.names
            subst z
            rw [i7.found] at a
            cases a
          have qd : q ≠ d := fun z => by
            subst z
            rw [i7.found] at hq7
            cases hq7
          have sld : sl ≠ d := fun z => by
            have a := i7.menu
            subst z
            rw [i7.found] at a
            cases a
          have k8 : KeepT H7 (upd H7 d (.dK (kvs ++ kv2))) := KeepT.mut i7.found (fun _ z => nomatch z)
          have i8 : Inn p nl d sl rem (kvs ++ kv2) (rs ++ gs) us H (upd H7 d (.dK (kvs ++ kv2))) :=
            ⟨(upd_ne nld).trans i7.names, upd_same, paired_app (paired_imp (fun _ _ => KvAt.keep k8) i7.rows) (paired_imp (fun _ _ => KvAt.keep k8) hr7),
              (by obtain ⟨a, b, e, r⟩ := i7.pot; exact ⟨a, b, (upd_ne ndp.symm).trans e, r⟩), fun c u hc n => (upd_ne (ne_of_none hc nd0)).trans (i7.but c u hc n), (upd_ne sld).trans i7.menu, paired_imp (fun _ _ h => k8 _ _ h) i7.shape⟩
          have glen : gs.length ≤ rem.length := by
            have l := congrArg List.length names2
            rw [List.length_map, List.length_take] at l
            omega
          have gne : gs ≠ [] := fun z => hg.trip.ne (by rw [z]; rfl)
          refine ⟨_, rfl, _, rfl, _, gs.length, rfl, .inl ⟨ps.map V.ref, SqL.of ((upd_ne qd).trans hq7), by rw [List.length_map, paired_len hps]⟩, _, rfl, nl, rem.map V.str, rfl, SqL.of i8.names, fun nl2 nn => ?_⟩
          have i9 := i8.step nlp ndp slp (But.new (o := .lst (cutV (rem.map V.str) (some (gs.length : Int)) none)) nn) (i8.pot.new nn)
          refine ⟨(rem.drop gs.length).length, ?_, nl2, rem.drop gs.length, kvs ++ kv2, rs ++ gs, _, _, rfl, rfl, i8.pot.ne nn, ⟨?_, i9.found, i9.rows, i9.pot, i9.but, i9.menu, i9.shape⟩, ?_, part.app (hg.part hshape), fun _ => ?_⟩
          · rw [List.length_drop]
            have := List.length_pos_iff.mpr gne
            omega
          · rw [upd_same, cut_from (by rw [List.length_map]; exact glen), List.map_drop]
          · rw [List.map_append, names2, List.append_assoc, List.take_append_drop]
            exact hmx
          · rcases Classical.em (rs = []) with z | z
            · obtain ⟨r, gs', rfl⟩ := cons1 gne
              obtain ⟨e1, e2⟩ := first z
              have e := hg.row r (.head _)
              exact ⟨r, List.mem_append_right _ (.head _), e.1.trans e1, e.2.1.trans e2⟩
            · obtain ⟨r, hr, e⟩ := plain z
              exact ⟨r, List.mem_append_left _ hr, e⟩
    · have r0 : rem = [] := by
        cases rem with
        | nil => rfl
        | cons => exact absurd rfl c
      subst r0
      rw [List.append_nil] at hmx
      have ne0 : rs ≠ [] := fun z => by
        subst z
        have l := pt.length_eq
        rw [← hmx] at l
        cases l
      exact ⟨_, rfl, k d kvs rs H4 nd0 i4.found i4.rows ⟨part, hmx ▸ pt, plain ne0⟩ i4.pot i4.but⟩
end
end N

set_option maxHeartbeats 4000000
/-! own errors with one field: raised, and caught by several named clauses -/
namespace L2
open PySem PySem.Spec PyProof.Rows
/-- the class, as it stands behind the top: its name x, its field f -/
structure ErrC (K : PySem.W.Frag) (mg : Str → Option Value) (x f : Str) (C : Addr) (st : Stmt) (qual : Str) : Prop where
  o : OexC K C
  r : XfC K C
  g : mg x = some (.ref C)
  no : PySem.W.findIn K (.ref C) f = some none
  ini : ∃ (fI : Addr) (fd : FuncData), PySem.W.findIn K (.ref C) "__init__" = some (some (.ref fI)) ∧ PySem.W.typeIn K (.ref fI) = some (.type "function") ∧ Fun K "__init__" qual st fI fd
/-- what its __init__ promises -/
def spErr (f : Str) (C : Addr) : Sp := fun vs H Q _ => ∃ (a : Addr) (v : V), vs = [.ref a, v] ∧ H a = some (exo a C none) ∧ ∀ d, H d = none → d ≠ a → Q .non (upd (upd H d (exd d [(f, v)])) a (exo a C (some d)))
/-- the heap behind an error's making -/
theorem err_heap {H1 : Hp} {a d C : Addr} {o : HO} {u v : HO} (ha : H1 a = none) (hd : d ≠ a) : upd (del (upd (upd (upd H1 a u) d v) a (exo a C (some d))) a) d o = upd H1 d o := by
  funext b
  by_cases e : b = d
  · rw [e, upd_same, upd_same]
  · rw [upd_ne e, upd_ne e]
    by_cases z : b = a
    · rw [z, del_same, ha]
    · rw [del_ne z, upd_ne z, upd_ne e, upd_ne z]
/-- a monotone reading of the same arguments -/
theorem PA.up {X : Cx} {es : List Expr} {t : TA} (h : PA X es t) : PA X es (fun σ H Q => ∃ Q0 : List V → Hp → Prop, t σ H Q0 ∧ ∀ vs H1, Q0 vs H1 → Q vs H1) :=
  ⟨fun pos pins s σ H Q I q => by
    obtain ⟨Q0, q1, q2⟩ := q
    exact wpAny_mono (h.run pos pins s σ H Q0 I q1) (fun us s' z => let ⟨vs, H1, I1, r, q3⟩ := z; ⟨vs, H1, I1, r, q2 _ _ q3⟩) fun _ _ z => z⟩
def tErr (f : Str) (C : Addr) (t : TA) : St → Hp → XK → Prop := fun σ H Q => t σ H fun vs H1 => ∃ v, vs = [v] ∧ ∀ d, H1 d = none → Q (.ref C) (some d) (upd H1 d (.xd [(f, v)]))
section
variable {X : Cx} {x f qual : Str} {C : Addr} {st : Stmt} {p pos pos2 : Pos} {e : Expr} {t : TA} {W : WX}
theorem pmk_err (T : ErrC X.K X.mg x f C st qual) (F : ∀ fI fd, Fun X.K "__init__" qual st fI fd → FnOk X.prog X.w X.K X.mg X.base CX0 1 fI fd ["self", f] (spErr f C) ∧ Binds X.K fd ["self", f] []) (hr : Room 2 X.A) (ha : PA X [e] t) (hg : Gl X x := by rfl)
    (hdb : (x == ("__debug__" : Str)) = false := by decide) (he : starEach (e :: []) X.env = (false, eval e X.env) :: starEach [] X.env := by rfl) (hpl : (backTo pos (starEach [] X.env)).any (·.1) = false := by rfl) :
    PMk X (.Call (.Name x p) [e] [] pos) (tErr f C t) := by
  intro pins s σ H Q I h
  obtain ⟨fI, fd, i1, i2, i3⟩ := T.ini
  obtain ⟨f1, f2⟩ := F fI fd i3
  refine pmk_oex T.o i1 i2 f1 hr f2 .nil pass0 hg T.g ha.up hdb he hpl pins s σ H Q I ⟨_, h, fun vs H1 q => ?_⟩
  obtain ⟨v, rfl, q⟩ := q
  refine ⟨by show 1 ≤ 1000; decide, fun a na => ⟨a, v, rfl, upd_same, fun d hd ne => ⟨rfl, d, [(f, v)], upd_same, ?_, ?_, ?_⟩⟩⟩
  · exact (upd_ne ne).trans upd_same
  · rw [upd_ne ne] at hd
    exact hd
  · rw [upd_ne ne] at hd
    rw [err_heap na ne]
    exact q d hd
theorem ps_raiseE (hc : X.calm = true) (T : ErrC X.K X.mg x f C st qual) (F : ∀ fI fd, Fun X.K "__init__" qual st fI fd → FnOk X.prog X.w X.K X.mg X.base CX0 1 fI fd ["self", f] (spErr f C) ∧ Binds X.K fd ["self", f] []) (hr : Room 2 X.A) (tk : Takes X W) (ha : PA X [e] t) (hg : Gl X x := by rfl)
    (hdb : (x == ("__debug__" : Str)) = false := by decide) (he : starEach (e :: []) X.env = (false, eval e X.env) :: starEach [] X.env := by rfl) (hpl : (backTo pos (starEach [] X.env)).any (·.1) = false := by rfl) :
    PS X (.Raise (some (.Call (.Name x p) [e] [] pos)) none pos2) (fun _ σ H => tErr f C t σ H fun c d H' => W c d σ H') := ps_raise hc tk (pmk_err T F hr ha hg hdb he hpl)
end
end L2

set_option maxHeartbeats 4000000
/-! try: .. except A as n: .. except B as n: ..  (one name, several clauses) -/
namespace L2
open PySem PySem.Spec PyProof.Rows
abbrev Suite := Addr → Value → Option Addr → TS
/-- the ends of a suite whose error stands in slot i: behind it the slot is empty -/
def endsAs (i : Nat) (D : Ends) : Ends where
  nx := fun τ G => D.nx (τ.set i none) G
  rt := D.rt
  bk := fun τ G => D.bk (τ.set i none) G
  ct := fun τ G => D.ct (τ.set i none) G
/-- what the clauses wish, the first that fits -/
def wAses (K : PySem.W.Frag) (i : Nat) (Wo : WX) (D : Ends) : List (Value × Suite) → WX
  | [] => Wo
  | (c, ts) :: r => fun k d τ G => ∃ b, PySem.W.exmOne K k c = some b ∧ (b = true → ∀ a, G a = none → ts a k d (endsAs i D) (τ.set i (some (.ref a))) G) ∧ (b = false → wAses K i Wo D r k d τ G)
inductive Clauses (X : Cx) (n : Str) : List ExceptHandler → List (Value × Suite) → Prop
  | nil : Clauses X n [] []
  | cons {x : Str} {c : Value} {ts : Suite} {b₀ : Stmt} {bs : List Stmt} {q1 q2 : Pos} {hs : List ExceptHandler} {l : List (Value × Suite)} (names : Names X x c)
      (suite : ∀ (a : Addr) (o : Obj) (k : Value) (d : Option Addr) (pn : List (Addr × Obj)), Zc k d o → (∃ vs, o.data = .fields vs) → PSs (X.suite a ((a, o) :: pn)) (b₀ :: bs) (ts a k d)) (rest : Clauses X n hs l) :
      Clauses X n (.ExceptHandler (some (.Name x q1)) (some n) (b₀ :: bs) q2 :: hs) ((c, ts) :: l)
/-- an error that has landed in the frame of X -/
structure Landed (X : Cx) (pins : List (Addr × Obj)) (τ : St) (G : Hp) (a : Addr) (k : Value) (d : Option Addr) (B : Heap) (sI s' : Shared) : Prop where
  inv : Inv X pins τ G sI
  nb : ∀ b o, sI.heap.get? b = some o → b ∉ frs X.stack → B.get? b = some o
  os : s'.os = sI.os
  ag : AllBare s'.gens
  na : G a = none
section
variable {X : Cx} {n : Str} {i : Nat} {hs : List ExceptHandler} {l : List (Value × Suite)} {Wo : WX} {pins : List (Addr × Obj)} {τ : St} {G : Hp} {a : Addr} {k : Value} {d : Option Addr} {B : Heap} {sI s' : Shared} {D : Ends}
theorem clauses_run (hst : X.stack = X.env :: X.outer) (hfr : X.env.frame = some X.env.locals) (nd : X.N.Nodup) (hi : X.N[i]? = some n) (loc : X.env.kindOf n = some .local) (tk : Takes X Wo) (L : Landed X pins τ G a k d B sI s') (hc : Clauses X n hs l) :
    ∀ {h : Heap}, HandSPX.FlyingZ B (X.env :: X.outer) a (Zc k d) h → sI.heap.UpToSlots h → wAses X.K i Wo D l k d τ G → wpAny (model X.prog X.w) X.A (handleBy (.ref a) X.env hs) (SP X pins D) X.xe { s' with heap := h } := by
  have ok := L.inv.ok
  induction hc with
  | nil =>
    intro h fl up w
    refine wpAny_handleBy_nil ?_
    obtain ⟨_, _, _, o, vs, T, oT, ts, e1, _, e2, e3, _⟩ := id fl
    unfold PySem.passOn
    refine wpAny_bind (wpAny_field e1 e2 e3 ?_)
    rw [if_neg (by simp : ¬ ((Value.ref T == Value.none) = true))]
    have out : wpAny (model X.prog X.w) X.A (setFlight (.ref a) X.env.frame) (fun _ z => wpAny (model X.prog X.w) X.A (throw (.ref a) : Sem Flow) (SP X pins D) X.xe z) X.xe { s' with heap := h } := by
      rw [hfr]
      exact HandSPX.setFlight_upZ fl fun h4 held up4 => wpAny_throw (tk _ _ ⟨a, B, sI, pins, τ, G, k, d, rfl, L.inv, L.nb, up.trans up4, .inr (.inr (by rw [hst]; exact held)), L.na, L.os, L.ag, w⟩)
    first
      | exact wpAny_bind (wpAny_pure (wpAny_bind out))
      | exact wpAny_bind out
  | @cons x c ts b₀ bs q1 q2 hs2 l2 names suite rest ih =>
    intro h fl up w
    obtain ⟨b, hb, yes, no⟩ := w
    obtain ⟨o, vs, e1, z1, e2⟩ := fl.there
    -- the error's object is no frame
    have away : ∀ {h' : Heap} {o' : Obj} {ws : Array Value}, h'.FunFrames B (X.env :: X.outer) → h'.get? a = some o' → o'.data = .fields ws → a ≠ X.env.locals ∧ a ∉ X.fs := fun {h' o' ws} ff e dd => by
      have no' : a ∉ frs (X.env :: X.outer) := fun m => by
        obtain ⟨_, o2, e', nf⟩ := ff.mem m
        rw [e] at e'
        cases e'
        exact nf _ dd
      refine ⟨fun z => no' (List.mem_filterMap.mpr ⟨X.env, List.mem_cons_self, by rw [hfr, z]⟩), fun m => ?_⟩
      obtain ⟨v, hv, q⟩ := List.mem_filterMap.mp m
      exact no' (List.mem_filterMap.mpr ⟨v, List.mem_cons_of_mem _ hv, q⟩)
    have J : Inv X pins τ G { s' with heap := h } := L.inv.landed L.nb fl.1 up L.os L.ag
    obtain ⟨nL, nF⟩ := away fl.2.2.1 e1 e2
    have S := J.suite e1 e2 L.na nL nF
    refine wpAny_handleBy_cons (codeAny_handlers_test ?_) (by intro q; cases q)
    have ty : PySem.W.Looks (model X.prog X.w) h (typeOf (.ref a)) k := fun _ _ _ _ kp q => wpAny_typeOf_ref (kp _ _ e1) (by rw [z1.1]; exact q)
    have fits := PySem.W.exm_one (M := model X.prog X.w) J.kIn ty hb
    have cls : ∀ {Q E : Value → Shared → Prop}, Q c { s' with heap := h } → wpAny (model X.prog X.w) (X.A.mark (some (.ref a))) (eval (.Name x q1) X.env) Q E { s' with heap := h } := fun {Q E} q => by
      obtain ⟨g1, g2, g3 | ⟨g3, g4, g5⟩⟩ := names
      · exact ld_glob (X := X.suite a ((a, o) :: (X.pn ++ pins))) S g1 g3 q g2
      · exact ld_blt (X := X.suite a ((a, o) :: (X.pn ++ pins))) S g1 g3 g4 q g5 g2
    refine cls (fits.here ?_)
    cases b with
    | false =>
      show wpAny _ X.A (handleBy (.ref a) X.env hs2) _ _ _
      exact ih fl up (no rfl)
    | true =>
      refine codeAny_handlers_suite_as (HandSPX.lands_againZ fl fun h4 fl4 up4 => ?_)
      have J4 : Inv X pins τ G { s' with heap := h4 } := L.inv.landed L.nb fl4.1 (up.trans up4) L.os L.ag
      obtain ⟨o4, vs4, f1, z4, f2⟩ := fl4.there
      have S4 := J4.suite f1 f2 L.na nL nF
      refine store_ok (X := X.suite a ((a, o4) :: (X.pn ++ pins))) (v := .ref a) S4 nd hi (.inl loc) rfl (fun s5 S5 => ?_) (.inr loc)
      refine wpAny_mono ((suite a o4 k d (X.pn ++ pins) z4 ⟨_, f2⟩).run [] s5 _ G _ S5 (yes rfl a L.na)) (fun f s6 hsp => ?_) (fun _ _ z => False.elim z)
      have fin : ∀ {τ6 : St} {G6 : Hp} {Q : Shared → Prop}, Inv (X.suite a ((a, o4) :: (X.pn ++ pins))) [] τ6 G6 s6 → (∀ s7, Inv X pins (τ6.set i none) G6 s7 → Q s7) →
          wpAny (model X.prog X.w) X.A (do bindName X.env n .none; unbindBehindTheSuite X.env n q2) (fun _ z => Q z) X.xe s6 := fun {τ6 G6 Q} S6 hq => gone_ok (S6.unsuite ok) nd hi loc hq
      match f, hsp with
      | .next, ⟨_, _, S6, q⟩ => exact fin S6 fun _ J7 => ⟨_, _, J7, q⟩
      | .brk, ⟨_, _, S6, q⟩ => exact fin S6 fun _ J7 => ⟨_, _, J7, q⟩
      | .cont, ⟨_, _, S6, q⟩ => exact fin S6 fun _ J7 => ⟨_, _, J7, q⟩
      | .ret u, ⟨_, _, _, S6, r, q⟩ => exact fin S6 fun _ J7 => ⟨_, _, _, J7, r, q⟩
end
section
variable {X : Cx} {n : Str} {i : Nat} {h₀ : ExceptHandler} {hs : List ExceptHandler} {l : List (Value × Suite)} {Wo : WX} {body : List Stmt} {tb : WX → TS} {pos : Pos}
theorem ps_try_ases (hst : X.stack = X.env :: X.outer) (hfr : X.env.frame = some X.env.locals) (nd : X.N.Nodup) (hi : X.N[i]? = some n) (loc : X.env.kindOf n = some .local) (tk : Takes X Wo)
    (hb : ∀ (W : WX) (pn : List (Addr × Obj)) (xe : Value → Shared → Prop), Takes (X.tr pn xe) W → PassesOwn (model X.prog X.w) X.A X.env xe → PSs (X.tr pn xe) body (tb W)) (hc : Clauses X n (h₀ :: hs) l) :
    PS X (.Try body (h₀ :: hs) [] [] pos) (fun D σ H => tb (wAses X.K i Wo D l) D σ H) := by
  refine ⟨fun pins s σ H D I q => ?_⟩
  have ok := I.ok
  have frames : X.A.frames = some (X.env :: X.outer) := by rw [ok.frames, hst]
  let xe : Value → Shared → Prop := fun e s1 => wpAny (model X.prog X.w) X.A (noteFrame e X.env) (fun _ s2 => wpAny (model X.prog X.w) X.A (setFlight e none) (fun _ s3 => wpAny (model X.prog X.w) X.A (handleBy e X.env (h₀ :: hs)) (SP X pins D) X.xe s3) X.xe s2) X.xe s1
  have caught : Takes (X.tr (X.pn ++ pins) xe) (wAses X.K i Wo D l) := fun u s' z => by
    obtain ⟨a, B, sI, pins', τ, G, k, d, rfl, J', nb, up, sky, na, os, ag, w⟩ := z
    refine Sky.land Zc.steady frames hfr (by rw [← hst]; exact sky) fun h3 fl up3 => ?_
    exact clauses_run hst hfr nd hi loc tk ⟨J'.ofTry ok, nb, os, ag, na⟩ hc fl (up.trans up3) w
  refine wpAny_Try_except (wpAny_mono ((hb _ (X.pn ++ pins) xe caught PassesOwn.looking).run [] s σ H D (I.toTry _) q) (fun f s1 z => ?_) fun _ _ z => z)
  match f, z with
  | .next, ⟨_, _, J, w⟩ => exact wpAny_execs_nil ⟨_, _, J.ofTry ok, w⟩
  | .brk, ⟨_, _, J, w⟩ => exact ⟨_, _, J.ofTry ok, w⟩
  | .cont, ⟨_, _, J, w⟩ => exact ⟨_, _, J.ofTry ok, w⟩
  | .ret u, ⟨_, _, _, J, r, w⟩ => exact ⟨_, _, _, J.ofTry ok, r, w⟩
end
end L2

set_option maxHeartbeats 4000000
/-! the end of a law row whose defs make lambdas: the tables of code objects, where no guard stands -/
namespace L2
open PySem PySem.Spec PyProof.Rows
abbrev emptyTab : Obj := { cls := .none, data := .fields #[] }
/-- an abstract heap with the tables at the addresses of T -/
def withTabs (T : List Addr) (H : Hp) : Hp := fun b => if b ∈ T then some (.tbl #[]) else H b
theorem withTabs_in {T : List Addr} {H : Hp} {b : Addr} (h : b ∈ T) : withTabs T H b = some (.tbl #[]) := if_pos h
theorem withTabs_out {T : List Addr} {H : Hp} {b : Addr} (h : b ∉ T) : withTabs T H b = H b := if_neg h
theorem law_callGT {P : Program} {w : World} {K : PySem.W.Frag} {mg mb : Str → Option Value} {k : Nat} {fa a : Addr} {fd : FuncData} {x : Str} {sp : Sp} {s : Shared} {vs : List Value} {ns : List Int} {cs : List (Addr × Addr)}
    (KX : K.In s.heap) (hns : s.heap.Ns mainGlobals mg) (hb : s.heap.Ns builtinsNs mb) (hbb : ∀ y : Str, y ≠ "__name__" → mb y = bootBuiltins y) (nl : s.heap.NoLimit) (hg : s.gens = #[])
    (tabs : ∀ p ∈ cs, s.heap.get? p.2 = some emptyTab) (loose : ∀ p ∈ cs, K.lookup p.2 = none) (codes : ∀ p ∈ cs, PySem.W.CodeHd s.heap p.1 p.2)
    (bm : ∃ (m : Addr) (ob : Obj), mg "__builtins__" = some (.ref m) ∧ m ≠ builtinsNs ∧ s.heap.get? m = some ob ∧ ob.cls = .type "module" ∧ ob.dict = some builtinsNs ∧ ob.data = .plain)
    (ha : s.heap.get? a = some { cls := .type "list", data := .seq vs.toArray }) (hi : IntsAre vs ns) (hl : ns.length ≤ sizeLine) (hr : Room k callerA)
    (F : ∀ base : Heap, K.In base → base.Ns mainGlobals mg → (∀ p ∈ cs, LamX.TabB base mg p.1 p.2) → FnG P w K mg base CX0 k fa fd [x] sp) (bind : ∀ (s : Shared) (u : Value), BindsTo s fd ⟨[u], []⟩ [(x, u)])
    (hsp : ∀ H : Hp, (∀ p ∈ cs, H p.2 = some (.tbl #[])) → SqL K H a (ns.map V.int) → sp [.ref a] H (fun v _ => v = .bl true) E0) :
    codeAny (model P w) callerA (.call (.ref fa) ⟨[.ref a], []⟩) (fun r s' => r = .ok (.ret (.bool true)) ∧ OldK s.heap s'.heap ∧ s'.os = s.os ∧ AllBare s'.gens) s := by
  obtain ⟨H0, only0, seq0, ok0, at0, out0⟩ := script_told (P := P) (w := w) KX ha hi hl
  let T : List Addr := cs.map (·.2)
  have isT : ∀ {b : Addr}, b ∈ T → s.heap.get? b = some emptyTab := fun hb => by
    obtain ⟨p, hp, e⟩ := List.mem_map.mp hb
    exact e ▸ tabs p hp
  have inT : ∀ {p : Addr × Addr}, p ∈ cs → p.2 ∈ T := fun hp => List.mem_map_of_mem hp
  have aT : a ∉ T := fun z => by
    have q := (isT z).symm.trans ha
    cases q
  let H : Hp := withTabs T H0
  have at_a : H a = H0 a := withTabs_out aT
  have seq : SqL K H a (ns.map V.int) := by
    rcases seq0 with (h | ⟨o, h⟩) | h
    · exact .inl (.inl (at_a.trans h))
    · exact .inl (.inr ⟨o, at_a.trans h⟩)
    · exact .inr h
  have where_ : ∀ b, H b ≠ none → b = a ∨ b ∈ T := fun b h => by
    by_cases z : b ∈ T
    · exact .inr z
    · exact .inl (at0 b (by rw [← withTabs_out (H := H0) z]; exact h))
  have ok : HOk P w H s.heap := fun b u e => by
    by_cases z : b ∈ T
    · have q : some (HO.tbl #[]) = some u := (withTabs_in z).symm.trans e
      cases q
      exact isT z
    · have q : H0 b = some u := (withTabs_out z).symm.trans e
      rcases only0 b with h | ⟨o, xs, h⟩
      · rw [h] at q; cases q
      · rw [h] at q
        cases q
        exact ok0 b _ h
  -- what is neither a list nor a table is in the ground
  have low : ∀ {b : Addr} {o : Obj}, s.heap.get? b = some o → (∀ us n, o.data ≠ .seq us n) → o.data ≠ .fields #[] → (hidT s.heap H).get? b = some o := fun {b o} e n1 n2 => hidT_get e (by
    cases q : H b with
    | none => rfl
    | some u =>
      rcases where_ b (by rw [q]; simp) with z | z
      · subst z
        rw [ha] at e
        cases e
        exact absurd rfl (n1 _ _)
      · rw [isT z] at e
        cases e
        exact absurd rfl n2)
  have dicts : ∀ {b : Addr} {m : Str → Option Value}, s.heap.Ns b m → (hidT s.heap H).Ns b m := fun n => by
    obtain ⟨o, es, ep, e, d, r⟩ := n
    exact ⟨o, es, ep, low e (fun us n z => by rw [d] at z; cases z) (fun z => by rw [d] at z; cases z), d, r⟩
  have hKb : K.In (hidT s.heap H) := fun b o e => hidT_get (KX b o e) (by
    cases q : H b with
    | none => rfl
    | some u =>
      rcases where_ b (by rw [q]; simp) with z | z
      · subst z
        rw [out0 (by rw [← at_a, q]; simp)] at e
        cases e
      · obtain ⟨p, hp, ep⟩ := List.mem_map.mp z
        rw [← ep, loose p hp] at e
        cases e)
  have tb : ∀ p ∈ cs, LamX.TabB (hidT s.heap H) mg p.1 p.2 := fun p hp => by
    refine ⟨?_, ?_, fun z => ?_⟩
    · obtain ⟨o, us, file, tf, fl, tg, inF, text, tt, e1, r1, r2, r3, r⟩ := codes p hp
      exact ⟨o, us, file, tf, fl, tg, inF, text, tt, low e1 (fun _ _ z => by rw [r2] at z; cases z) (fun z => by rw [r2] at z; cases z; simp at r3), r1, r2, r3, r⟩
    · obtain ⟨m, ob, b1, b2, b3, b4, b5, b6⟩ := bm
      refine ⟨m, ob, b1, b2, fun z => ?_, fun z => ?_, low b3 (fun _ _ z => by rw [b6] at z; cases z) (fun z => by rw [b6] at z; cases z), b4, b5, b6⟩
      · obtain ⟨o, es, ep, e, hd, _⟩ := hns
        rw [z, e] at b3
        cases b3
        rw [hd] at b6
        cases b6
      · rw [z, tabs p hp] at b3
        cases b3
        cases b6
    · obtain ⟨o, es, ep, e, hd, _⟩ := hns
      rw [z, tabs p hp] at e
      cases e
      cases hd
  obtain ⟨mc, n1, n2⟩ := nl
  have e0 : Env0 P w K mg (hidT s.heap H) callerA [] s H :=
    ⟨rfl, ⟨hKb, dicts hns, ⟨mb, dicts hb, hbb⟩, ⟨mc, dicts n1, n2⟩⟩, fun b o e => of_hidT e, Nat.le_of_eq (hidT_size _ _), trivial, fun b z => (nomatch z), ok, .of_eq hg⟩
  refine codeAny_mono ((F _ hKb (dicts hns) tb).run callerA [] s H ⟨[.ref a], []⟩ [.ref a] [.ref a] _ _ hr rfl e0 (bind s (.ref a)) (.cons rfl .nil) (hsp H (fun p hp => withTabs_in (inT hp)) seq)) fun r s' h => ?_
  match r, h with
  | .ok (.ret u), ⟨v, H', os, bare, un, ok', rv, (q : v = .bl true)⟩ =>
    subst q
    cases (show u = Value.bool true from rv)
    have stays : ∀ b o, b ∉ T → s.heap.get? b = some o → s'.heap.get? b = some o := fun b o nb e => by
      have q : H b = H0 b := withTabs_out nb
      rcases only0 b with z | ⟨ob, xs, z⟩
      · exact un.keep b o e (q.trans z) (fun m => nomatch m) (fun m => nomatch m)
      · have e1 := (ok b _ (q.trans z)).1
        rw [e] at e1
        cases e1
        exact (ok' b _ (un.frzs b o _ (q.trans z))).1
    have grown : ∀ p ∈ cs, ∃ more : Array Value, s'.heap.get? p.2 = some { cls := .none, data := .fields more } := fun p hp => by
      obtain ⟨more, z⟩ := un.tbls p.2 #[] (withTabs_in (inT hp))
      exact ⟨_, ok' p.2 _ z⟩
    refine ⟨rfl, ⟨fun b o e => ?_, fun b o e => ?_⟩, os, bare⟩
    · by_cases z : b ∈ T
      · obtain ⟨p, hp, ep⟩ := List.mem_map.mp z
        obtain ⟨more, hm⟩ := grown p hp
        subst ep
        rw [tabs p hp] at e
        cases e
        exact .inr (.inl ⟨((codes p hp).tab (tabs p hp)).isCodeTable, rfl, #[], more, rfl, by rw [Array.empty_append]; exact hm⟩)
      · exact .inl (stays b o z e)
    · by_cases z : b ∈ T
      · obtain ⟨p, hp, ep⟩ := List.mem_map.mp z
        obtain ⟨more, hm⟩ := grown p hp
        exact ⟨_, ep ▸ hm⟩
      · exact ⟨o, stays b o z e⟩
/-- what is known of the law's def at the heap behind the top -/
def LawGT (l : PySem.W.OpenLaw) (w : World) (K : PySem.W.Frag) (k n : Nat) (x : Str) (mg : Str → Option Value) (fa : Addr) (h : Heap) : Prop :=
  ∃ (fd : FuncData) (cs : List (Addr × Addr)) (sp : Sp), (∀ p ∈ cs, h.get? p.2 = some emptyTab) ∧ (∀ p ∈ cs, K.lookup p.2 = none) ∧ (∀ p ∈ cs, PySem.W.CodeHd h p.1 p.2) ∧ (∀ (s : Shared) (u : Value), BindsTo s fd ⟨[u], []⟩ [(x, u)]) ∧
    (∀ (H : Hp) (a : Addr) (ns : List Int), ns.length ≤ n → (∀ p ∈ cs, H p.2 = some (.tbl #[])) → SqL K H a (ns.map V.int) → sp [.ref a] H (fun v _ => v = .bl true) E0) ∧
    ∀ base : Heap, K.In base → base.Ns mainGlobals mg → (∀ p ∈ cs, LamX.TabB base mg p.1 p.2) → FnG l.prog w K mg base CX0 k fa fd [x] sp
theorem walk_ofGT {l : PySem.W.OpenLaw} {n k : Nat} {q : Program} {loose : List Str} {XP : (Str → Option Value) → Heap → Prop} {YP : World → Heap → Prop} {d : DefRec} {K : Params → PySem.W.Frag} {x : Str}
    (hn : l.most = some n) (hn2 : n ≤ sizeLine) (hdf : d.params.defaults = []) (hr : Room k callerA) (hY : ∀ (w : World) (h : Heap), YP w h → (K w.params).In h)
    (F : ∀ (w : World) (mg : Str → Option Value) (fa : Addr) (h : Heap), YP w h → (K w.params).In h → h.Ns mainGlobals mg → mg d.name = some (.ref fa) → LawGT l w (K w.params) k n x mg fa h) :
    PySem.W.WalkO q loose XP YP l.row.toRowW d [] (fun f vs => PySem.call f vs) := by
  refine Att.attach_call hn hdf fun w s₀ s mg mb fa o pm cd doc a vs ns G Y ho hd hcd hmg hobj hints hlen hg => ?_
  obtain ⟨fd, cs, sp, h1, h2, h3, h4, h5, h6⟩ := F w mg fa _ Y (hY w _ Y) G.T.g hmg
  exact law_callGT (hY w _ Y) G.T.g G.T.b G.T.builtins G.T.nolimit hg h1 h2 h3 G.T.bmain hobj hints (Nat.le_trans hlen hn2) hr h6 h4 fun H z1 z2 => h5 H a ns hlen z1 z2
end L2

set_option maxHeartbeats 4000000
/-! how long a told value is; repr of a pair whose second may be an empty dict -/
namespace L2
open PySem PySem.Spec PyProof.Rows
mutual
/-- data whose text has a bound by its shape -/
def fine : PyData → Bool
  | .none => true
  | .bool _ => true
  | .int i => decide (i.natAbs.log2 < 1920)
  | .str x => x.cps.all fun c => decide (c < 0x110000)
  | .list xs => fineAll xs
  | .tuple xs => fineAll xs
  | .dict [] => true
  | .dict (_ :: _) => false
def fineAll : List PyData → Bool
  | [] => true
  | x :: xs => fine x && fineAll xs
end
mutual
def wt : PyData → Nat
  | .none => 4
  | .bool _ => 5
  | .int _ => 1921
  | .str x => 10 * x.length + 2
  | .list xs => wtAll xs + 2
  | .tuple xs => wtAll xs + 3
  | .dict _ => 2
def wtAll : List PyData → Nat
  | [] => 0
  | x :: xs => wt x + 2 + wtAll xs
end
theorem textFrom_le : ∀ (ts : List Str) (k : Nat) (acc : Str), (textFrom k acc ts).length ≤ acc.length + piled ts
  | [], k, acc => by simp [textFrom, piled]
  | t :: ts, k, acc => by
    unfold textFrom
    refine Nat.le_trans (textFrom_le ts (k + 1) _) ?_
    rw [piled_cons, strLen_append, strLen_append]
    have : ((if k > 0 then ", " else "" : String) : Str).length ≤ 2 := by split <;> decide
    omega
theorem join_le (ts : List Str) : (Str.join ", " ts).length ≤ piled ts := by
  cases ts with
  | nil => decide
  | cons t r =>
    have := join_length_add (t :: r) (by simp)
    omega
mutual
theorem fine_ok : ∀ d : PyData, fine d = true → d.showable = true ∧ d.shown.length ≤ wt d
  | .none, _ => ⟨rfl, by decide +kernel⟩
  | .bool true, _ => ⟨rfl, by decide +kernel⟩
  | .bool false, _ => ⟨rfl, by decide +kernel⟩
  | .int i, h => ⟨by simpa [fine, PyData.showable] using h, by
      have : i.natAbs.log2 < 1920 := by simpa [fine] using h
      exact int_text_len_1921 this⟩
  | .str x, h => ⟨rfl, by
      refine StrLaws.reprText_len x fun c hc => ?_
      have h' : x.cps.all (fun c => decide (c < 0x110000)) = true := h
      have := (Array.all_eq_true_iff_forall_mem.mp h') c (Array.mem_toList_iff.mp hc)
      have : c < 0x110000 := of_decide_eq_true this
      omega⟩
  | .list xs, h => by
    obtain ⟨a, b⟩ := fineAll_ok xs h
    refine ⟨a, ?_⟩
    show (textFrom 0 "[" (PyData.shownAll xs) ++ "]" : Str).length ≤ wtAll xs + 2
    rw [strLen_append]
    have q := textFrom_le (PyData.shownAll xs) 0 "["
    have l1 : ("[" : Str).length = 1 := rfl
    have l2 : ("]" : Str).length = 1 := rfl
    omega
  | .tuple xs, h => by
    obtain ⟨a, b⟩ := fineAll_ok xs h
    refine ⟨a, ?_⟩
    show (("(" : Str) ++ Str.join ", " (PyData.shownAll xs) ++ (if (PyData.shownAll xs).length == 1 then ",)" else ")" : String)).length ≤ wtAll xs + 3
    rw [strLen_append, strLen_append]
    have q := join_le (PyData.shownAll xs)
    have l1 : ("(" : Str).length = 1 := rfl
    have l2 : ((if (PyData.shownAll xs).length == 1 then ",)" else ")" : String) : Str).length ≤ 2 := by split <;> decide
    omega
  | .dict [], _ => ⟨rfl, by decide +kernel⟩
  | .dict (_ :: _), h => by cases h
theorem fineAll_ok : ∀ ds : List PyData, fineAll ds = true → PyData.showableAll ds = true ∧ piled (PyData.shownAll ds) ≤ wtAll ds
  | [], _ => ⟨rfl, Nat.le_refl _⟩
  | d :: ds, h => by
    obtain ⟨h1, h2⟩ := Bool.and_eq_true_iff.mp (show (fine d && fineAll ds) = true from h)
    obtain ⟨a, b⟩ := fine_ok d h1
    obtain ⟨c, e⟩ := fineAll_ok ds h2
    refine ⟨by simp [PyData.showableAll, a, c], ?_⟩
    show piled (d.shown :: PyData.shownAll ds) ≤ wt d + 2 + wtAll ds
    rw [piled_cons]
    omega
end
/-- data, or an empty dict -/
inductive Oq (K : PySem.W.Frag) (H : Hp) : V → PyData → Prop
  | of {v : V} {d : PyData} (h : Dp K H v d) : Oq K H v d
  | emp {a : Addr} (h : H a = some (.dK [])) : Oq K H (.ref a) (.dict [])
theorem Oq.ext {K : PySem.W.Frag} {H H' : Hp} {v : V} {d : PyData} (e : ∀ {u w}, Dp K H u w → Dp K H' u w) (f : ∀ a, H a = some (.dK []) → H' a = some (.dK [])) : Oq K H v d → Oq K H' v d
  | .of h => .of (e h)
  | .emp h => .emp (f _ h)
section
variable {X : Cx}
theorem emp_reads {pins : List (Addr × Obj)} {σ : St} {H : Hp} {s : Shared} {a : Addr} (I : Inv X pins σ H s) (h : H a = some (.dK [])) : Reads s.heap (.ref a) (.dict []) [a] ∧ sysModules ≠ a := by
  obtain ⟨_, n, vs, r, o, es, ep, e1, e2, e3, _, e5, _⟩ := dk_of I.hok h
  cases r
  have ez : es.toList = [] := by
    cases q : es.toList with
    | nil => rfl
    | cons x xs =>
      rw [q] at e5
      cases e5
  refine ⟨?_, fun z => by subst z; simp at n⟩
  have q := Reads.dict (kvs := []) (as := []) (bs := []) e1 e2.1 e3 (by rw [ez]; exact .nil) (by rw [ez]; exact .nil)
  exact q
/-- repr((text, x)) -/
def rReprP (K : PySem.W.Frag) (B : Nat) : List V → Hp → VK → Prop := fun xs H Q => ∃ (t : Addr) (x : Str) (v : V) (d : PyData), xs = [.ref t] ∧ SqT K H t [.str x, v] ∧ Oq K H v d ∧ fine (.tuple [.str x, d]) = true ∧ d.depth < B ∧ wt (.tuple [.str x, d]) ≤ 1000000 ∧
  Q (.str (PyData.tuple [.str x, d]).shown) H
end
theorem fine_size {d : PyData} (h : fine d = true) (w : wt d ≤ 1000000) : d.shown.length ≤ sizeLine := Nat.le_trans (fine_ok d h).2 (Nat.le_trans w (by decide))
section
variable {X : Cx}
theorem call_reprP {B : Nat} (hc : Calm X.A) (hu : X.A.units + (B + 1) < cLine) : CallR X (.builtin "repr") (rReprP X.K B) := by
  intro pins s σ H xs us Q I r h
  obtain ⟨t, x, v, d, rfl, ht, hd, hf, hB, hw, q⟩ := h
  cases hd with
  | of hd =>
    have e : (PyData.tuple [.str x, d]).depth ≤ B := by
      simp [PyData.depth, PyData.depthAll]
      omega
    exact call_reprD (B := B) hc hu pins s σ H [.ref t] us Q I r ⟨.ref t, .tuple [.str x, d], rfl, .tup ht (.cons (.str _) (.cons hd .nil)), (fine_ok _ hf).1, e, fine_size hf hw, q⟩
  | @emp a ha =>
    obtain ⟨u, rfl, ru⟩ := r.one
    cases (show u = Value.ref t from ru)
    obtain ⟨rd, ns⟩ := emp_reads I ha
    obtain ⟨its, rv, ⟨o, ho, hcl, n, hdt⟩, _⟩ := I.tuple ht
    obtain ⟨tk, w, rfl⟩ : ∃ tk w, its = [Value.str x tk, .ref a] := by
      cases rv with
      | cons r1 r2 =>
        cases r2 with
        | cons r3 r4 =>
          cases r4
          obtain ⟨tk, rfl⟩ := r1
          exact ⟨tk, (), by rw [show _ = Value.ref a from r3]⟩
    have rt : Reads s.heap (.ref t) (.tuple [.str x, .dict []]) ([] ++ ([a] ++ [])) := Reads.tuple ho hcl hdt (.cons (.str _ _) (.cons rd .nil))
    exact repr_of_reads' rt (fine_ok _ hf).1 (fun _ m => ns (by simpa using m)) hc (by have z : (PyData.tuple [.str x, .dict []]).depth = 2 := rfl; have z2 : (PyData.dict []).depth = 1 := rfl; omega) (fun _ _ e => e) (fun h' t tk hk => ⟨.str _, H, I.kept hk, ⟨_, rfl⟩, q⟩) (fine_size hf hw)
end
end L2

set_option maxHeartbeats 4000000
namespace N
open PySem L2
/-! ### a kind's values, right and wrong ones -/
def letters : Str := "abcdefghijklmnopqrstuvwxyz"
def NameOk (s : Str) : Prop := 1 ≤ s.length ∧ s.length ≤ 8 ∧ ∀ c ∈ s.cps.toList, c ∈ letters.cps.toList
instance {s : Str} : Decidable (NameOk s) := by unfold NameOk; infer_instance
structure KindOk (r : Row) : Prop where
  name : NameOk r.name
  back : ∀ x, r.back = some x → NameOk x
  mirror : ∀ x, r.mirror = some x → NameOk x
  takes : 0 ≤ r.takes ∧ r.takes ≤ 6
  makes : 0 ≤ r.makes ∧ r.makes ≤ 6
  some_ : ¬ (r.takes = 0 ∧ r.makes = 0)
  yarn : 0 ≤ r.yarn ∧ r.yarn ≤ 999
def isI : V → Bool
  | .int _ => true
  | _ => false
def isS : V → Bool
  | .str _ => true
  | _ => false
def isB : V → Bool
  | .bl _ => true
  | _ => false
def goodN : V → Bool
  | .str s => decide (NameOk s)
  | _ => false
def goodO : V → Bool
  | .non => true
  | v => goodN v
def goodC : V → Bool
  | .int z => decide (0 ≤ z)
  | _ => false
def goodI (n : Int) : V → Bool
  | .int z => decide (0 ≤ z) && decide (z ≤ n)
  | _ => false
/-- the values that are handed to a kind here -/
inductive Odd (H : Hp) : V → Prop
  | non : Odd H .non
  | bl (b : Bool) : Odd H (.bl b)
  | int (i : Int) (h : i.natAbs.log2 < 1920) : Odd H (.int i)
  | str (s : Str) (h : s.length ≤ 100) (hc : (s.cps.all fun c => decide (c < 0x110000)) = true) : Odd H (.str s)
  | lst {a : Addr} (h : H a = some (.lst [])) : Odd H (.ref a)
  | tupS {a : Addr} (s : Str) (h : H a = some (.tup [.str s])) (hl : s.length ≤ 100) (hc : (s.cps.all fun c => decide (c < 0x110000)) = true) : Odd H (.ref a)
  | tupI {a : Addr} (i : Int) (h : H a = some (.tup [.int i])) (hl : i.natAbs.log2 < 1920) : Odd H (.ref a)
  | dic {a : Addr} (h : H a = some (.dK [])) : Odd H (.ref a)
theorem kits (T : String) (a b c : Bool) (h : (kitB T "str" == some a && kitB T "int" == some b && kitB T "bool" == some c) = true) : kitB T "str" = some a ∧ kitB T "int" = some b ∧ kitB T "bool" = some c := by
  simpa [and_assoc] using h
theorem Odd.ty {K : PySem.W.Frag} {H : Hp} {v : V} (h : Odd H v) : ∃ T, TyX K H v (.type T) ∧ kitB T "str" = some (isS v) ∧ kitB T "int" = some (isI v || isB v) ∧ kitB T "bool" = some (isB v) := by
  cases h with
  | non => exact ⟨_, .base .non, kits "NoneType" false false false (by decide +kernel)⟩
  | bl b => exact ⟨_, .base (.bl b), kits "bool" false true true (by decide +kernel)⟩
  | int i => exact ⟨_, .base (.int i), kits "int" false true false (by decide +kernel)⟩
  | str s => exact ⟨_, .base (.str s), kits "str" true false false (by decide +kernel)⟩
  | lst h => exact ⟨_, .base (.lst h), kits "list" false false false (by decide +kernel)⟩
  | tupS s h => exact ⟨_, .base (.tup h), kits "tuple" false false false (by decide +kernel)⟩
  | tupI s h => exact ⟨_, .base (.tup h), kits "tuple" false false false (by decide +kernel)⟩
  | dic h => exact ⟨_, .base (.dK h), kits "dict" false false false (by decide +kernel)⟩
theorem Odd.same {H H' : Hp} {v : V} (e : Same H H') (h : Odd H v) : Odd H' v := by
  cases h with
  | non => exact .non
  | bl b => exact .bl b
  | int i h => exact .int i h
  | str s h c => exact .str s h c
  | lst h => exact .lst (e _ _ h)
  | tupS s h l c => exact .tupS s (e _ _ h) l c
  | tupI i h l => exact .tupI i (e _ _ h) l
  | dic h => exact .dic (e _ _ h)
/-- the pot is no told list -/
theorem Odd.but {H H' : Hp} {v : V} {p : Addr} (hp : Pot H p) (e : But p H H') (h : Odd H v) : Odd H' v := by
  obtain ⟨x, y, ep, _⟩ := hp
  cases h with
  | non => exact .non
  | bl b => exact .bl b
  | int i h => exact .int i h
  | str s h c => exact .str s h c
  | lst h => exact .lst (e _ _ h fun z => by subst z; rw [ep] at h; cases h)
  | tupS s h l c => exact .tupS s (e _ _ h fun z => by subst z; rw [ep] at h; cases h) l c
  | tupI i h l => exact .tupI i (e _ _ h fun z => by subst z; rw [ep] at h; cases h) l
  | dic h => exact .dic (e _ _ h fun z => by subst z; rw [ep] at h; cases h)
/-- told beside a text -/
theorem Odd.data {K : PySem.W.Frag} {H : Hp} {v : V} (h : Odd H v) : ∃ d, Oq K H v d ∧ fine d = true ∧ d.depth ≤ 1 ∧ wt d ≤ 2000 := by
  cases h with
  | non => exact ⟨_, .of .non, rfl, by decide, by decide⟩
  | bl b => exact ⟨_, .of (.bl b), rfl, Nat.zero_le _, by show 5 ≤ 2000; decide⟩
  | int i h => exact ⟨_, .of (.int i), decide_eq_true h, Nat.zero_le _, by show 1921 ≤ 2000; decide⟩
  | str s h c => exact ⟨_, .of (.str s), c, Nat.zero_le _, by show 10 * s.length + 2 ≤ 2000; omega⟩
  | lst h => exact ⟨_, .of (.lst (SqL.of h) .nil), rfl, by decide, by decide⟩
  | tupS s h l c => exact ⟨_, .of (.tup (SqT.of h) (.cons (.str s) .nil)), by show (s.cps.all _ && true) = true; rw [c]; rfl, by show max 0 0 + 1 ≤ 1; decide, by show 10 * s.length + 2 + 2 + 0 + 3 ≤ 2000; omega⟩
  | tupI i h l => exact ⟨_, .of (.tup (SqT.of h) (.cons (.int i) .nil)), by show (decide _ && true) = true; rw [decide_eq_true l]; rfl, by show max 0 0 + 1 ≤ 1; decide, by show 1921 + 2 + 0 + 3 ≤ 2000; decide⟩
  | dic h => exact ⟨_, .emp h, rfl, by decide, by decide⟩
theorem kit_b {K : PySem.W.Frag} {a b : String} {r : Bool} (h : kitB a b = some r) : PySem.W.kitOne K (.type a) (.type b) = some r := kit_ty h
structure Globs (mg : Str → Option Value) : Prop where
  longest : ∃ t, mg "_LONGEST_NAME" = some (.int 8 t)
  letters : ∃ t, mg "_LETTERS" = some (.str "abcdefghijklmnopqrstuvwxyz" t)
  loops : ∃ t, mg "_MOST_LOOPS" = some (.int 6 t)
  yarn : ∃ t, mg "_MOST_YARN" = some (.int 999 t)
def spIsInt : Sp := fun vs H Q _ => ∃ v : V, vs = [v] ∧ Odd H v ∧ Q (.bl (isI v)) H
def spCount : Sp := fun vs H Q _ => ∃ v : V, vs = [v] ∧ Odd H v ∧ Q (.bl (goodC v)) H
def spCountTo : Sp := fun vs H Q _ => ∃ (v : V) (n : Int), vs = [v, .int n] ∧ Odd H v ∧ Q (.bl (goodI n v)) H
def spIsName : Sp := fun vs H Q _ => ∃ v : V, vs = [v] ∧ Odd H v ∧ ∀ H', Same H H' → Q (.bl (goodN v)) H'
section
variable {P : Program} {w : World} {K : PySem.W.Frag} {mg : Str → Option Value} {base : Heap}
abbrev s_is_integer : Stmt := top 3
theorem sc_is_integer : FnScope ["value"] ["value"] (defScope s_is_integer) := ⟨rfl, rfl, rfl, by decide +kernel, rfl, by decide +kernel, by decide +kernel⟩
theorem h_is_integer (B : Blts mg) (F : FunAt K mg "is_integer" "is_integer" s_is_integer) : Has P w K mg base "is_integer" 1 ["value"] spIsInt := by
  refine has_of F sc_is_integer (fun _ _ _ _ _ _ us hl => match us, hl with | [_], _ => rfl) (fun vs H Q E h => ?_) (fun f cdv A outer s H vs Q E hr h => ?_)
  · obtain ⟨v, rfl, _⟩ := h
    rfl
  · obtain ⟨v, rfl, hv, k⟩ := h
    obtain ⟨T, ty, _, ki, kb⟩ := hv.ty (K := K)
    refine ⟨_, (pss_one (ps_ret (pe_and (pe_callB call_isi (by rfl) B.n_isinstance (by decide +kernel) (pa_cons (pv 0) (pa_cons (pe_bltn (v := .ty "int") (u := .type "int") rfl B.n_int (by decide +kernel) rfl) pa_nil))) (pe_one (pe_not (pe_callB call_isi (by rfl) B.n_isinstance (by decide +kernel) (pa_cons (pv 0) (pa_cons (pe_bltn (v := .ty "bool") (u := .type "bool") rfl B.n_bool (by decide +kernel) rfl) pa_nil)))))))), ?_⟩
    refine ⟨_, rfl, _, _, _, _, _, rfl, .ty _, ty, kit_b ki, _, rfl, ?_⟩
    cases v with
    | int i => exact iteT ⟨_, rfl, _, _, _, _, _, rfl, .ty _, ty, kit_b kb, _, rfl, k⟩
    | bl b => exact iteT ⟨_, rfl, _, _, _, _, _, rfl, .ty _, ty, kit_b kb, _, rfl, k⟩
    | _ => exact iteF k
abbrev s_is_count : Stmt := top 4
theorem sc_is_count : FnScope ["value"] ["value"] (defScope s_is_count) := ⟨rfl, rfl, rfl, by decide +kernel, rfl, by decide +kernel, by decide +kernel⟩
theorem h_is_count (F : FunAt K mg "is_count" "is_count" s_is_count) (his_integer : Has P w K mg base "is_integer" 1 ["value"] spIsInt) : Has P w K mg base "is_count" 2 ["value"] spCount := by
  refine has_of F sc_is_count (fun _ _ _ _ _ _ us hl => match us, hl with | [_], _ => rfl) (fun vs H Q E h => ?_) (fun f cdv A outer s H vs Q E hr h => ?_)
  · obtain ⟨i, rfl, _⟩ := h
    rfl
  · obtain ⟨v, rfl, hv, k⟩ := h
    refine ⟨_, (pss_one (ps_ret (pe_and (pe_has his_integer (hr.mono (by decide)) (pa_cons (pv 0) pa_nil)) (pe_one (pe_cmpR op_ge (pv 0) pe_int (by first | exact nomark _ | rfl)))))), ?_⟩
    refine ⟨_, rfl, v, rfl, hv, _, rfl, ?_⟩
    cases v with
    | int i => exact iteT ⟨_, rfl, _, _, rfl, rfl, k⟩
    | _ => exact iteF k
abbrev s_is_count_to : Stmt := top 5
theorem sc_is_count_to : FnScope ["value", "most"] ["value", "most"] (defScope s_is_count_to) := ⟨rfl, rfl, rfl, by decide +kernel, rfl, by decide +kernel, by decide +kernel⟩
theorem h_is_count_to (F : FunAt K mg "is_count_to" "is_count_to" s_is_count_to) (his_count : Has P w K mg base "is_count" 2 ["value"] spCount) : Has P w K mg base "is_count_to" 3 ["value", "most"] spCountTo := by
  refine has_of F sc_is_count_to (fun _ _ _ _ _ _ us hl => match us, hl with | [_, _], _ => rfl) (fun vs H Q E h => ?_) (fun f cdv A outer s H vs Q E hr h => ?_)
  · obtain ⟨i, n, rfl, _⟩ := h
    rfl
  · obtain ⟨v, n, rfl, hv, k⟩ := h
    refine ⟨_, (pss_one (ps_ret (pe_and (pe_has his_count (hr.mono (by decide)) (pa_cons (pv 0) pa_nil)) (pe_one (pe_cmpR op_le (pv 0) (pv 1) (by first | exact nomark _ | rfl)))))), ?_⟩
    refine ⟨_, rfl, v, rfl, hv, _, rfl, ?_⟩
    cases v with
    | int i =>
      refine ite2 (fun c => ⟨_, rfl, _, rfl, _, _, rfl, rfl, ?_⟩) (fun c => ?_)
      · show Q (.bl (decide (i ≤ n))) H
        have c' : decide (0 ≤ i) = true := c
        have k' : Q (.bl (decide (0 ≤ i) && decide (i ≤ n))) H := k
        rw [c', Bool.true_and] at k'
        exact k'
      · have c' : decide (0 ≤ i) = false := by
          have c0 : ¬ decide (0 ≤ i) = true := c
          simpa using c0
        have k' : Q (.bl (decide (0 ≤ i) && decide (i ≤ n))) H := k
        rw [c', Bool.false_and] at k'
        exact k'
    | _ => exact iteF k
abbrev s_is_name : Stmt := top 6
theorem sc_is_name : FnScope ["value", "letter"] ["value"] (defScope s_is_name) := ⟨rfl, rfl, rfl, by decide +kernel, rfl, by decide +kernel, by decide +kernel⟩
theorem h_is_name (B : Blts mg) (G : Globs mg) (F : FunAt K mg "is_name" "is_name" s_is_name) : Has P w K mg base "is_name" 1 ["value"] spIsName := by
  obtain ⟨_, g_LONGEST_NAME⟩ := G.longest
  obtain ⟨_, g_LETTERS⟩ := G.letters
  refine has_of F sc_is_name (fun _ _ _ _ _ _ us hl => match us, hl with | [_], _ => rfl) (fun vs H Q E h => ?_) (fun f cdv A outer s H vs Q E hr h => ?_)
  · obtain ⟨i, rfl, _⟩ := h
    rfl
  · obtain ⟨v, rfl, hv, k⟩ := h
    obtain ⟨T, ty, ks, _, _⟩ := hv.ty (K := K)
    refine ⟨_, (pss_cons (ps_if (PW.pt (pw_or (pt_not (pt_val (pe_callB call_isi (by rfl) B.n_isinstance (by decide +kernel) (pa_cons (pv 0) (pa_cons (pe_bltn (v := .ty "str") (u := .type "str") rfl B.n_str (by decide +kernel) rfl) pa_nil))))) (pw_or1 (pt_not (pt_chain op_le op_le pe_int (pe_callB call_len (by rfl) B.n_len PySem.boot_len (pa_cons (pv 0) pa_nil)) (pe_glob (v := .int 8) rfl g_LONGEST_NAME ⟨_, rfl⟩)))))) (pss_one (ps_ret pe_bl))
        pss_nil)
      (pss_one (ps_ret (pe_callB (cr_all rfl) (by rfl) B.n_all (by decide +kernel) (pa_cons (pe_lc (own := [("letter", 1)]) rfl sc_is_name.nd (pi_str (pv 0)) (blkOk_by (own := [("letter", 1)]) (N := ["value", "letter"]) (sc := defScope s_is_name) (by decide +kernel)) (fun _ _ _ _ _ => by exact (pg_name (i := 1) sc_is_name.nd rfl (Or.inl rfl))) (fun _ _ _ _ _ => by exact pts_nil) (fun _ _ _ _ _ => by exact (pe_cmpR op_in_sign (pv 1) (pe_glob (v := .str "abcdefghijklmnopqrstuvwxyz") rfl g_LETTERS ⟨_, rfl⟩) (by first | exact nomark _ | rfl)))) pa_nil))))), ?_⟩
    refine ⟨_, rfl, _, _, _, _, _, rfl, .ty _, ty, kit_b ks, _, rfl, ?_⟩
    cases v with
    | str z =>
      have hz : z.length ≤ 100 := by cases hv; assumption
      have z8 : z.length ≤ sizeLine := Nat.le_trans hz (by decide)
      refine iteF ?_
      refine ⟨_, rfl, _, z.length, rfl, ⟨z8, rfl⟩, _, _, rfl, rfl, _, rfl, ite2 (fun c1 => ?_) (fun c1 => ?_)⟩
      · refine ⟨_, _, rfl, rfl, _, rfl, ?_⟩
        refine ite2 (fun c2 => ?_) (fun c2 => ?_)
        · -- too long
          have h8 : ¬ (z.length : Int) ≤ 8 := by simpa using c2
          have e : decide (NameOk z) = false := decide_eq_false fun n => h8 (by have := n.2.1; omega)
          have k' := k H (Same.refl _)
          rw [show goodN (.str z) = false from e] at k'
          exact k'
        · refine ⟨_, rfl, z, rfl, fun D nD => lc_map walk_str (fun i => .bl (match z.cps[i]? with | some c => decide (c ∈ letters.cps.toList) | none => true)) nD (Nat.lt_of_le_of_lt hz (by decide)) (fun _ _ => trivial) ?_ ?_⟩
          · rintro i x H1 H2 hi s1 ⟨rfl, c, hci, rfl⟩ R hR
            refine ⟨rfl, _, rfl, c, _, rfl, rfl, ?_⟩
            have q := hR H2 (Same.refl _)
            rw [hci] at q
            exact q
          · intro H1 s1 hD
            refine ⟨D, (List.range z.cps.size).map fun i => (match z.cps[i]? with | some c => decide (c ∈ letters.cps.toList) | none => true), rfl, SqL.of (by rw [List.map_map]; exact hD), ?_⟩
            have h1 : (1 : Int) ≤ (z.length : Int) := of_decide_eq_true c1
            have h8 : (z.length : Int) ≤ 8 := by simpa using c2
            have e : ((List.range z.cps.size).map fun i => (match z.cps[i]? with | some c => decide (c ∈ letters.cps.toList) | none => true)).all id = goodN (.str z) := by
              show _ = decide (NameOk z)
              rw [Bool.eq_iff_iff, decide_eq_true_iff, List.all_map, List.all_eq_true]
              constructor
              · intro all
                refine ⟨by omega, by omega, fun c hc => ?_⟩
                obtain ⟨i, hi, rfl⟩ := List.getElem_of_mem hc
                have hi' : i < z.cps.size := by simpa using hi
                have := all i (List.mem_range.mpr hi')
                simpa [Array.getElem?_eq_getElem hi'] using this
              · rintro ⟨_, _, all⟩ i hi
                have hi' : i < z.cps.size := List.mem_range.mp hi
                have := all z.cps[i] (by simp)
                simpa [Array.getElem?_eq_getElem hi'] using this
            rw [e]
            exact k _ s1
      · have h1 : ¬ (1 : Int) ≤ (z.length : Int) := by simpa using c1
        have e : decide (NameOk z) = false := decide_eq_false fun n => h1 (by have := n.1; omega)
        have k' := k H (Same.refl _)
        rw [show goodN (.str z) = false from e] at k'
        exact ⟨_, rfl, iteT k'⟩
    | _ => exact iteT (k H (Same.refl _))
end
end N

set_option maxHeartbeats 4000000
namespace N
open PySem L2
/-! ### Kind(..): made, or refused -/
structure Six where
  n : V
  t : V
  m : V
  b : V
  i : V
  y : V
def Six.vs (z : Six) : List V := [z.n, z.t, z.m, z.b, z.i, z.y]
def isZ : V → Bool
  | .int z => decide (z = 0)
  | _ => false
/-- the first fault: 0 a name, 1 a number, 2 a kind that takes and makes nothing -/
def Six.fault (z : Six) : Option (Nat × V) :=
  if goodN z.n = false then some (0, z.n) else if goodO z.b = false then some (0, z.b) else if goodO z.i = false then some (0, z.i) else
  if goodI 6 z.t = false then some (1, z.t) else if goodI 6 z.m = false then some (1, z.m) else if goodI 999 z.y = false then some (1, z.y) else
  if (isZ z.t && isZ z.m) = true then some (2, z.n) else none
def kf (z : Six) : List (Str × V) := [("_name", z.n), ("_takes", z.t), ("_makes", z.m), ("_back", z.b), ("_mirror", z.i), ("_yarn", z.y)]
abbrev s_InvalidName___init__ : Stmt := inClass (top 9) 0
theorem sc_InvalidNameD_initD : FnScope ["self", "value"] ["self", "value"] (defScope s_InvalidName___init__) := ⟨rfl, rfl, rfl, by decide +kernel, rfl, by decide +kernel, by decide +kernel⟩
abbrev s_InvalidNumber___init__ : Stmt := inClass (top 10) 0
theorem sc_InvalidNumberD_initD : FnScope ["self", "value"] ["self", "value"] (defScope s_InvalidNumber___init__) := ⟨rfl, rfl, rfl, by decide +kernel, rfl, by decide +kernel, by decide +kernel⟩
abbrev s_InvalidKind___init__ : Stmt := inClass (top 11) 0
theorem sc_InvalidKindD_initD : FnScope ["self", "value"] ["self", "value"] (defScope s_InvalidKind___init__) := ⟨rfl, rfl, rfl, by decide +kernel, rfl, by decide +kernel, by decide +kernel⟩
/-- what the walk asks of the classes -/
structure KindT (K : PySem.W.Frag) (mg : Str → Option Value) (C : Addr) (Cs : Nat → Addr) : Prop where
  own : OwnC K C
  n0 : NoAttr K C "_name"
  n1 : NoAttr K C "_takes"
  n2 : NoAttr K C "_makes"
  n3 : NoAttr K C "_back"
  n4 : NoAttr K C "_mirror"
  n5 : NoAttr K C "_yarn"
  g : mg "Kind" = some (.ref C)
  e0 : ErrC K mg "InvalidName" "value" (Cs 0) s_InvalidName___init__ "InvalidName.__init__"
  e1 : ErrC K mg "InvalidNumber" "value" (Cs 1) s_InvalidNumber___init__ "InvalidNumber.__init__"
  e2 : ErrC K mg "InvalidKind" "value" (Cs 2) s_InvalidKind___init__ "InvalidKind.__init__"
theorem KindT.cl {K : PySem.W.Frag} {mg : Str → Option Value} {C : Addr} {Cs : Nat → Addr} (T : KindT K mg C Cs) : Cls K C := T.own.cl
def spKind (C : Addr) (Cs : Nat → Addr) : Sp := fun vs H Q E => ∃ (p dx : Addr) (z : Six), vs = .ref p :: z.vs ∧ H p = some (.ins C dx []) ∧ (∀ v ∈ z.vs, Odd H v) ∧
  (z.fault = none → ∀ H', H' p = some (.ins C dx (kf z)) → But p H H' → Q .non H') ∧ (∀ k v, z.fault = some (k, v) → ∀ d H', Same H H' → H' d = some (.xd [("value", v)]) → E (.ref (Cs k)) (some d) H')
theorem put_new {f : Str} {v : V} {fs : List (Str × V)} (h : (fs.map (·.1)).contains f = false) : putF f v fs = fs ++ [(f, v)] := putF_new fun q hq e => by
  have : (fs.map (·.1)).contains f = true := by
    rw [List.contains_iff_mem]
    exact e ▸ List.mem_map_of_mem hq
  rw [h] at this
  cases this
theorem next_of {D : Ends} {σ : St} {H : Hp} (h : D.nx σ H) : tNext D σ H := h
theorem plen {f : Str} {v : V} : ∀ {fs : List (Str × V)} {n : Nat}, fs.length ≤ n → (putF f v fs).length ≤ n + 1
  | [], n, _ => by
    show 1 ≤ n + 1
    omega
  | (g, x) :: r, 0, h => by cases h
  | (g, x) :: r, n + 1, h => by
    unfold putF
    split
    · exact Nat.le_succ_of_le h
    · exact Nat.succ_le_succ (plen (Nat.le_of_succ_le_succ h))
section
variable {P : Program} {w : World} {K : PySem.W.Frag} {mg : Str → Option Value} {base : Heap} {C : Addr} {Cs : Nat → Addr}
theorem ok_e0 {k : Nat} (o : OexC K (Cs k)) (no : PySem.W.findIn K (.ref (Cs k)) "value" = some none) (fI : Addr) (fd : FuncData) (F : Fun K "__init__" "InvalidName.__init__" s_InvalidName___init__ fI fd) : FnOk P w K mg base CX0 1 fI fd ["self", "value"] (spErr "value" (Cs k)) ∧ Binds K fd ["self", "value"] [] := by
  refine ⟨F.ok sc_InvalidNameD_initD (fun vs H Q E h => ?_) (fun cdv A outer s H vs Q E hr h => ?_), F.binds (fun _ _ _ _ _ _ us hl => match us, hl with | [_, _], _ => rfl)⟩
  · obtain ⟨_, _, rfl, _⟩ := h
    rfl
  · obtain ⟨a, v, rfl, ha, k⟩ := h
    exact ⟨_, PSs.nox (pss_one (ps_ost (pv 0) (pv 1))), _, rfl, _, rfl, a, _, rfl, o, no, .inl ⟨ha, k⟩⟩
theorem ok_e1 {k : Nat} (o : OexC K (Cs k)) (no : PySem.W.findIn K (.ref (Cs k)) "value" = some none) (fI : Addr) (fd : FuncData) (F : Fun K "__init__" "InvalidNumber.__init__" s_InvalidNumber___init__ fI fd) : FnOk P w K mg base CX0 1 fI fd ["self", "value"] (spErr "value" (Cs k)) ∧ Binds K fd ["self", "value"] [] := by
  refine ⟨F.ok sc_InvalidNumberD_initD (fun vs H Q E h => ?_) (fun cdv A outer s H vs Q E hr h => ?_), F.binds (fun _ _ _ _ _ _ us hl => match us, hl with | [_, _], _ => rfl)⟩
  · obtain ⟨_, _, rfl, _⟩ := h
    rfl
  · obtain ⟨a, v, rfl, ha, k⟩ := h
    exact ⟨_, PSs.nox (pss_one (ps_ost (pv 0) (pv 1))), _, rfl, _, rfl, a, _, rfl, o, no, .inl ⟨ha, k⟩⟩
theorem ok_e2 {k : Nat} (o : OexC K (Cs k)) (no : PySem.W.findIn K (.ref (Cs k)) "value" = some none) (fI : Addr) (fd : FuncData) (F : Fun K "__init__" "InvalidKind.__init__" s_InvalidKind___init__ fI fd) : FnOk P w K mg base CX0 1 fI fd ["self", "value"] (spErr "value" (Cs k)) ∧ Binds K fd ["self", "value"] [] := by
  refine ⟨F.ok sc_InvalidKindD_initD (fun vs H Q E h => ?_) (fun cdv A outer s H vs Q E hr h => ?_), F.binds (fun _ _ _ _ _ _ us hl => match us, hl with | [_, _], _ => rfl)⟩
  · obtain ⟨_, _, rfl, _⟩ := h
    rfl
  · obtain ⟨a, v, rfl, ha, k⟩ := h
    exact ⟨_, PSs.nox (pss_one (ps_ost (pv 0) (pv 1))), _, rfl, _, rfl, a, _, rfl, o, no, .inl ⟨ha, k⟩⟩
abbrev s_Kind___init__ : Stmt := inClass (top 26) 0
theorem sc_KindD_initD : FnScope ["self", "name", "takes", "makes", "back", "mirror", "yarn", "twin", "loops"] ["self", "name", "takes", "makes", "back", "mirror", "yarn"] (defScope s_Kind___init__) := ⟨rfl, rfl, rfl, by decide +kernel, rfl, by decide +kernel, by decide +kernel⟩
theorem ok_kind {f : Addr} {fd : FuncData} {dvs : List V} {kws : List (Str × V)} (B : Blts mg) (G : Globs mg) (T : KindT K mg C Cs) (F : FunD K "__init__" "Kind.__init__" (defArgs s_Kind___init__) (defBody s_Kind___init__) (defScope s_Kind___init__) dvs kws f fd)
    (his_name : Has P w K mg base "is_name" 1 ["value"] spIsName) (his_count_to : Has P w K mg base "is_count_to" 3 ["value", "most"] spCountTo) : FnOk P w K mg base (L2.CX P w) 4 f fd ["self", "name", "takes", "makes", "back", "mirror", "yarn"] (spKind C Cs) := by
  obtain ⟨_, g_MOST_LOOPS⟩ := G.loops
  obtain ⟨_, g_MOST_YARN⟩ := G.yarn
  refine F.ok sc_KindD_initD (fun vs H Q E h => ?_) (fun cdv A outer s H vs Q E hr h => ?_)
  · obtain ⟨p, dx, z, rfl, _⟩ := h
    rfl
  · obtain ⟨p, dx, z, rfl, hp, odd, k, ke⟩ := h
    have o1 : Odd H z.n := odd _ (by simp [Six.vs])
    have o2 : Odd H z.t := odd _ (by simp [Six.vs])
    have o3 : Odd H z.m := odd _ (by simp [Six.vs])
    have o4 : Odd H z.b := odd _ (by simp [Six.vs])
    have o5 : Odd H z.i := odd _ (by simp [Six.vs])
    have o6 : Odd H z.y := odd _ (by simp [Six.vs])
    refine ⟨_, (pss_cons (ps_if (pt_not (pt_val (pe_has his_name (hr.mono (by decide)) (pa_cons (pv 1) pa_nil)))) (pss_one (ps_raiseE rfl T.e0 (ok_e0 T.e0.o T.e0.no) (hr.mono (by decide)) (takes_of rfl rfl rfl rfl) (by exact (pa_cons (pv 1) pa_nil))))
        pss_nil)
      (pss_cons (ps_for (passes_of rfl) rfl (pi_tup (pe_tup (pa_cons (pv 4) (pa_cons (pv 5) pa_nil)))) (pg_name (i := 7) sc_KindD_initD.nd rfl (Or.inl rfl))
        (pss_one (ps_if (PW.pt (pw_and (pt_cmpR op_notN (pv 7) pe_non (by first | exact nomark _ | rfl)) (pw_and1 (pt_not (pt_val (pe_has his_name (hr.mono (by decide)) (pa_cons (pv 7) pa_nil))))))) (pss_one (ps_raiseE rfl T.e0 (ok_e0 T.e0.o T.e0.no) (hr.mono (by decide)) (takes_of rfl rfl rfl rfl) (by exact (pa_cons (pv 7) pa_nil))))
          pss_nil)))
      (pss_cons (ps_for (passes_of rfl) rfl (pi_tup (pe_tup (pa_cons (pv 2) (pa_cons (pv 3) pa_nil)))) (pg_name (i := 8) sc_KindD_initD.nd rfl (Or.inl rfl))
        (pss_one (ps_if (pt_not (pt_val (pe_has his_count_to (hr.mono (by decide)) (pa_cons (pv 8) (pa_cons (pe_glob (v := .int 6) rfl g_MOST_LOOPS ⟨_, rfl⟩) pa_nil))))) (pss_one (ps_raiseE rfl T.e1 (ok_e1 T.e1.o T.e1.no) (hr.mono (by decide)) (takes_of rfl rfl rfl rfl) (by exact (pa_cons (pv 8) pa_nil))))
          pss_nil)))
      (pss_cons (ps_if (pt_not (pt_val (pe_has his_count_to (hr.mono (by decide)) (pa_cons (pv 6) (pa_cons (pe_glob (v := .int 999) rfl g_MOST_YARN ⟨_, rfl⟩) pa_nil))))) (pss_one (ps_raiseE rfl T.e1 (ok_e1 T.e1.o T.e1.no) (hr.mono (by decide)) (takes_of rfl rfl rfl rfl) (by exact (pa_cons (pv 6) pa_nil))))
        pss_nil)
      (pss_cons (ps_if (PW.pt (pw_and (pt_cmpR op_eq (pv 2) pe_int (by first | exact nomark _ | rfl)) (pw_and1 (pt_cmpR op_eq (pv 3) pe_int (by first | exact nomark _ | rfl))))) (pss_one (ps_raiseE rfl T.e2 (ok_e2 T.e2.o T.e2.no) (hr.mono (by decide)) (takes_of rfl rfl rfl rfl) (by exact (pa_cons (pv 1) pa_nil))))
        pss_nil)
      (pss_cons (ps_fld (pv 0) (pv 1) rfl)
      (pss_cons (ps_fld (pv 0) (pv 2) rfl)
      (pss_cons (ps_fld (pv 0) (pv 3) rfl)
      (pss_cons (ps_fld (pv 0) (pv 4) rfl)
      (pss_cons (ps_fld (pv 0) (pv 5) rfl)
      (pss_one (ps_fld (pv 0) (pv 6) rfl)))))))))))), ?_⟩
    refine ⟨_, rfl, z.n, rfl, o1, fun H1 s1 => ⟨_, rfl, ite2 (fun c => ?_) (fun c => ?_)⟩⟩
    · have g : goodN z.n = false := by simpa using c
      exact ⟨_, rfl, _, rfl, fun d hd => ke 0 z.n (by simp [Six.fault, g]) d _ (s1.trans (Same.new hd)) upd_same⟩
    have g1 : goodN z.n = true := by simpa using c
    refine ⟨_, rfl, _, rfl, (by show 2 ≤ sizeLine; decide), fun t nt => ?_⟩
    refine ⟨t, rfl, ⟨_, SqT.of upd_same⟩, for_tup (K := K) (a := t) (xs := [z.b, z.i]) (fun i σ H' => ∃ v7 : Option V, σ = [some (.ref p), some z.n, some z.t, some z.m, some z.b, some z.i, some z.y, v7, none] ∧ Same (upd H1 t (.tup [z.b, z.i])) H' ∧ (1 ≤ i → goodO z.b = true) ∧ (2 ≤ i → goodO z.i = true))
      ⟨none, rfl, Same.refl _, by omega, by omega⟩ (fun i σ H' _ ⟨_, _, e, _⟩ => SqT.of (e _ _ upd_same)) ?_ ?_⟩
    · rintro i x σ H2 hi ⟨v7, rfl, e2, gb, gi⟩
      have s2 : Same H H2 := s1.trans ((Same.new nt).trans e2)
      have hx : (i = 0 ∧ x = z.b) ∨ (i = 1 ∧ x = z.i) := by
        match i, hi with
        | 0, hi => exact .inl ⟨rfl, (Option.some.inj hi).symm⟩
        | 1, hi => exact .inr ⟨rfl, (Option.some.inj hi).symm⟩
        | n + 2, hi => simp at hi
      have ox : Odd H2 x := by
        rcases hx with ⟨_, rfl⟩ | ⟨_, rfl⟩
        · exact o4.same s2
        · exact o5.same s2
      -- good: on to the next
      have good : goodO x = true → ∀ H3, Same H2 H3 → ∃ v7' : Option V, [some (V.ref p), some z.n, some z.t, some z.m, some z.b, some z.i, some z.y, some x, none] = [some (V.ref p), some z.n, some z.t, some z.m, some z.b, some z.i, some z.y, v7', none] ∧ Same (upd H1 t (.tup [z.b, z.i])) H3 ∧ (1 ≤ i + 1 → goodO z.b = true) ∧ (2 ≤ i + 1 → goodO z.i = true) := fun gx H3 s3 => by
        refine ⟨some x, rfl, e2.trans s3, fun _ => ?_, fun hi2 => ?_⟩
        · rcases hx with ⟨_, rfl⟩ | ⟨h1, rfl⟩
          · exact gx
          · exact gb (by omega)
        · rcases hx with ⟨h1, rfl⟩ | ⟨h1, rfl⟩
          · omega
          · exact gx
      refine ⟨_, rfl, rfl, _, rfl, ite2 (fun c1 => ?_) (fun c1 => ?_)⟩
      · refine ⟨_, rfl, x, rfl, ox, fun H3 s3 => ⟨_, rfl, ite2 (fun c2 => ?_) (fun c2 => ?_)⟩⟩
        · have g : goodN x = false := by simpa using c2
          have g' : goodO x = false := by
            cases x with
            | non => simp at c1
            | _ => exact g
          refine ⟨_, rfl, _, rfl, fun d hd => ke 0 x ?_ d _ ((s2.trans s3).trans (Same.new hd)) upd_same⟩
          rcases hx with ⟨_, rfl⟩ | ⟨h1, rfl⟩
          · simp [Six.fault, g1, g']
          · simp [Six.fault, g1, gb (by omega), g']
        · have g : goodN x = true := by simpa using c2
          exact good (by cases x <;> first | exact g | rfl) H3 s3
      · refine good ?_ H2 (Same.refl _)
        have e : x = .non := by simpa using c1
        rw [e]
        rfl
    · rintro σ H2 ⟨v7, rfl, e2, gb, gi⟩
      have g2 := gb (by show 1 ≤ 2; decide)
      have g3 := gi (by show 2 ≤ 2; decide)
      have s2 : Same H H2 := s1.trans ((Same.new nt).trans e2)
      refine ⟨_, rfl, _, rfl, (by show 2 ≤ sizeLine; decide), fun t2 nt2 => ⟨t2, rfl, ⟨_, SqT.of upd_same⟩, for_tup (K := K) (a := t2) (xs := [z.t, z.m]) (fun i σ H' => ∃ v8 : Option V, σ = [some (.ref p), some z.n, some z.t, some z.m, some z.b, some z.i, some z.y, v7, v8] ∧ Same (upd H2 t2 (.tup [z.t, z.m])) H' ∧ (1 ≤ i → goodI 6 z.t = true) ∧ (2 ≤ i → goodI 6 z.m = true))
        ⟨none, rfl, Same.refl _, by omega, by omega⟩ (fun i σ H' _ ⟨_, _, e, _⟩ => SqT.of (e _ _ upd_same)) ?_ ?_⟩⟩
      · rintro i x σ H3 hi ⟨v8, rfl, e3, gt, gm⟩
        have s3 : Same H H3 := s2.trans ((Same.new nt2).trans e3)
        have hx : (i = 0 ∧ x = z.t) ∨ (i = 1 ∧ x = z.m) := by
          match i, hi with
          | 0, hi => exact .inl ⟨rfl, (Option.some.inj hi).symm⟩
          | 1, hi => exact .inr ⟨rfl, (Option.some.inj hi).symm⟩
          | n + 2, hi => simp at hi
        have ox : Odd H3 x := by
          rcases hx with ⟨_, rfl⟩ | ⟨_, rfl⟩
          · exact o2.same s3
          · exact o3.same s3
        refine ⟨_, rfl, x, 6, rfl, ox, _, rfl, ite2 (fun c2 => ?_) (fun c2 => ?_)⟩
        · have g : goodI 6 x = false := by simpa using c2
          refine ⟨_, rfl, _, rfl, fun d hd => ke 1 x ?_ d _ (s3.trans (Same.new hd)) upd_same⟩
          rcases hx with ⟨_, rfl⟩ | ⟨h1, rfl⟩
          · simp [Six.fault, g1, g2, g3, g]
          · simp [Six.fault, g1, g2, g3, gt (by omega), g]
        · have g : goodI 6 x = true := by simpa using c2
          refine ⟨some x, rfl, e3, fun _ => ?_, fun hi2 => ?_⟩
          · rcases hx with ⟨_, rfl⟩ | ⟨h1, rfl⟩
            · exact g
            · exact gt (by omega)
          · rcases hx with ⟨h1, rfl⟩ | ⟨h1, rfl⟩
            · omega
            · exact g
      · rintro σ H3 ⟨v8, rfl, e3, gt, gm⟩
        have g4 := gt (by show 1 ≤ 2; decide)
        have g5 := gm (by show 2 ≤ 2; decide)
        have s3 : Same H H3 := s2.trans ((Same.new nt2).trans e3)
        refine ⟨_, rfl, z.y, 999, rfl, o6.same s3, _, rfl, ite2 (fun c2 => ?_) (fun c2 => ?_)⟩
        · have g : goodI 999 z.y = false := by simpa using c2
          exact ⟨_, rfl, _, rfl, fun d hd => ke 1 z.y (by simp [Six.fault, g1, g2, g3, g4, g5, g]) d _ (s3.trans (Same.new hd)) upd_same⟩
        have g6 : goodI 999 z.y = true := by simpa using c2
        obtain ⟨t0, et⟩ : ∃ t0, z.t = .int t0 := by cases q : z.t <;> rw [q] at g4 <;> first | exact ⟨_, rfl⟩ | cases g4
        obtain ⟨m0, em⟩ : ∃ m0, z.m = .int m0 := by cases q : z.m <;> rw [q] at g5 <;> first | exact ⟨_, rfl⟩ | cases g5
        refine next_of ?_
        dsimp only
        refine seq_cut (fun σ' H' => σ' = [some (.ref p), some z.n, some z.t, some z.m, some z.b, some z.i, some z.y, v7, v8] ∧ H' = H3 ∧ z.fault = none) (fun Z hZ => ?_) ?_
        · have ft : isZ z.t = decide (t0 = 0) := by rw [et]; rfl
          have fm : isZ z.m = decide (m0 = 0) := by rw [em]; rfl
          refine ⟨_, rfl, (by rw [et]; rfl), _, rfl, ite2 (fun c3 => ⟨_, rfl, (by rw [em]; rfl), _, rfl, ite2 (fun c4 => ?_) (fun c4 => ?_)⟩) (fun c3 => ?_)⟩
          · have e1 : t0 = 0 := by simpa [et] using c3
            have e2 : m0 = 0 := by simpa [em] using c4
            refine ⟨_, rfl, _, rfl, fun d hd => ke 2 z.n (by simp [Six.fault, g1, g2, g3, g4, g5, g6, ft, fm, e1, e2]) d _ (s3.trans (Same.new hd)) upd_same⟩
          · have e2 : ¬ m0 = 0 := by simpa [em] using c4
            exact hZ _ _ ⟨rfl, rfl, by simp [Six.fault, g1, g2, g3, g4, g5, g6, ft, fm, e2]⟩
          · have e1 : ¬ t0 = 0 := by simpa [et] using c3
            exact hZ _ _ ⟨rfl, rfl, by simp [Six.fault, g1, g2, g3, g4, g5, g6, ft, fm, e1]⟩
        · rintro _ _ ⟨rfl, rfl, fn⟩
          have hp3 := s3 _ _ hp
          refine ⟨_, rfl, _, rfl, p, C, dx, [], rfl, hp3, T.cl, T.n0, by decide, ?_⟩
          refine ⟨_, rfl, _, rfl, p, C, dx, _, rfl, upd_same, T.cl, T.n1, Nat.lt_of_le_of_lt (plen (Nat.le_refl 0)) (by decide), ?_⟩
          refine ⟨_, rfl, _, rfl, p, C, dx, _, rfl, upd_same, T.cl, T.n2, Nat.lt_of_le_of_lt (plen (plen (Nat.le_refl 0))) (by decide), ?_⟩
          refine ⟨_, rfl, _, rfl, p, C, dx, _, rfl, upd_same, T.cl, T.n3, Nat.lt_of_le_of_lt (plen (plen (plen (Nat.le_refl 0)))) (by decide), ?_⟩
          refine ⟨_, rfl, _, rfl, p, C, dx, _, rfl, upd_same, T.cl, T.n4, Nat.lt_of_le_of_lt (plen (plen (plen (plen (Nat.le_refl 0))))) (by decide), ?_⟩
          refine ⟨_, rfl, _, rfl, p, C, dx, _, rfl, upd_same, T.cl, T.n5, Nat.lt_of_le_of_lt (plen (plen (plen (plen (plen (Nat.le_refl 0)))))) (by decide), ?_⟩
          refine k fn _ ?_ ((((((But.of s3).trans But.upd).trans But.upd).trans But.upd).trans But.upd).trans But.upd |>.trans But.upd)
          refine upd_same.trans ?_
          rw [put_new (fs := []) rfl, List.nil_append, put_new (fs := [_]) rfl, put_new rfl, put_new rfl, put_new rfl, put_new rfl]
          rfl
end
end N

set_option maxHeartbeats 4000000
namespace L2
open PySem PySem.Spec PyProof.Rows
/-- a class that is made, its __init__ may raise -/
structure HasX (P : Program) (w : World) (K : PySem.W.Frag) (mg : Str → Option Value) (base : Heap) (x : Str) (k : Nat) (ps : List Str) (sp : Sp) : Prop where
  ex : ∃ (f : Addr) (fd : FuncData), mg x = some (.ref f) ∧ PySem.W.keepIn K (.ref f) = true ∧ Binds K fd ps [] ∧ FnOk P w K mg base (L2.CX P w) k f fd ps sp
structure MakX (P : Program) (w : World) (K : PySem.W.Frag) (mg : Str → Option Value) (base : Heap) (x : Str) (C : Addr) (k n : Nat) (ps ks : List Str) (sp : Sp) (gV : List V → List V → List V) : Prop where
  ex : ∃ (f : Addr) (fd : FuncData) (g : List Value → List Value → List Value), mg x = some (.ref C) ∧ Mk K C f ∧ KBn K fd ps (n + 1) ks g gV ∧ FnOk P w K mg base (L2.CX P w) k f fd ps sp
structure MakD (P : Program) (w : World) (K : PySem.W.Frag) (mg : Str → Option Value) (base : Heap) (x : Str) (C : Addr) (k : Nat) (ps : List Str) (sp : Sp) (dvs : List V) : Prop where
  ex : ∃ (f : Addr) (fd : FuncData) (ds : List Value), mg x = some (.ref C) ∧ Mk K C f ∧ Binds K fd ps ds ∧ Vals dvs ds ∧ FnOk P w K mg base (L2.CX P w) k f fd ps sp
section
variable {X : Cx} {x : Str} {C : Addr} {k n : Nat} {ps ks : List Str} {sp : Sp} {gV : List V → List V → List V} {dvs : List V} {p pos : Pos} {e : Expr} {es : List Expr} {kws : List Keyword} {t tk : TA} {E : XK}
/-- f(e, ..), f may raise -/
theorem pe_hasX (h : HasX X.prog X.w X.K X.mg X.base x k ps sp) (hr : Room k X.A) (hx : Passes (L2.CX X.prog X.w) X E) (ha : PA X (e :: es) t) (hg : Gl X x := by rfl) (hdb : (x == ("__debug__" : Str)) = false := by decide)
    (he : starEach (e :: es) X.env = (false, eval e X.env) :: starEach es X.env := by rfl) (hpl : (backTo pos (starEach es X.env)).any (·.1) = false := by rfl) :
    PE X (.Call (.Name x p) (e :: es) [] pos) (tCall sp [] E t) := by
  obtain ⟨f, fd, hm, hk, hb, F⟩ := h.ex
  exact pe_call F hr hg hm hk hb .nil hx ha hdb he hpl
theorem pe_makX (h : MakX X.prog X.w X.K X.mg X.base x C k n ps ks sp gV) (hr : Room (k + 1) X.A) (hx : Passes (L2.CX X.prog X.w) X E) (ha : PA X (e :: es) t) (hkw : PK X kws tk) (hg : Gl X x := by rfl) (hdb : (x == ("__debug__" : Str)) = false := by decide)
    (hall : (backToKw pos (keywordEach kws X.env)).all (·.1.isSome) = true := by rfl) (hks : (backToKw pos (keywordEach kws X.env)).filterMap (·.1) = ks := by rfl)
    (he : starEach (e :: es) X.env = (false, eval e X.env) :: starEach es X.env := by rfl) (hpl : ((backTo pos (starEach (e :: es) X.env)).any (·.1) || (backToKw pos (keywordEach kws X.env)).any (·.1.isNone)) = false := by rfl) :
    PE X (.Call (.Name x p) (e :: es) kws pos) (tMakeK C n ks.length sp gV E t tk) := by
  obtain ⟨f, fd, g, hm, M, hb, F⟩ := h.ex
  exact pe_makeK M F hr hg hm hb hx ha hkw hall hks hdb he hpl
theorem pe_makX0 (h : MakX X.prog X.w X.K X.mg X.base x C k 0 ps ks sp gV) (hr : Room (k + 1) X.A) (hx : Passes (L2.CX X.prog X.w) X E) (hkw : PK X kws tk) (hg : Gl X x := by rfl) (hdb : (x == ("__debug__" : Str)) = false := by decide)
    (hall : (backToKw pos (keywordEach kws X.env)).all (·.1.isSome) = true := by rfl) (hks : (backToKw pos (keywordEach kws X.env)).filterMap (·.1) = ks := by rfl)
    (hpl : ((backTo pos (starEach [] X.env)).any (·.1) || (backToKw pos (keywordEach kws X.env)).any (·.1.isNone)) = false := by rfl) :
    PE X (.Call (.Name x p) [] kws pos) (tMakeK C 0 ks.length sp gV E tNil tk) := by
  obtain ⟨f, fd, g, hm, M, hb, F⟩ := h.ex
  exact pe_makeK0 M F hr hg hm hb hx hkw hall hks hdb hpl
theorem pe_makD (h : MakD X.prog X.w X.K X.mg X.base x C k ps sp dvs) (hr : Room (k + 1) X.A) (hx : Passes (L2.CX X.prog X.w) X E) (ha : PA X (e :: es) t) (hg : Gl X x := by rfl) (hdb : (x == ("__debug__" : Str)) = false := by decide)
    (he : starEach (e :: es) X.env = (false, eval e X.env) :: starEach es X.env := by rfl) (hpl : (backTo pos (starEach es X.env)).any (·.1) = false := by rfl) :
    PE X (.Call (.Name x p) (e :: es) [] pos) (tMake C sp dvs E t) := by
  obtain ⟨f, fd, ds, hm, M, hb, hd, F⟩ := h.ex
  exact pe_make M F hr hg hm hb hd hx ha hdb he hpl
end
end L2
namespace N
open PySem L2
/-! ### a kind, asked -/
def Row.six (r : Row) : Six := ⟨.str r.name, .int r.takes, .int r.makes, ov r.back, ov r.mirror, .int r.yarn⟩
def KindAt (C : Addr) (H : Hp) (a : Addr) (r : Row) : Prop := ∃ dx, H a = some (.ins C dx (kf r.six))
theorem KindAt.but {C : Addr} {H H' : Hp} {a p : Addr} {r : Row} (hp : Pot H p) (h : KindAt C H a r) (e : But p H H') : KindAt C H' a r := by
  obtain ⟨dx, h⟩ := h
  refine ⟨dx, e _ _ h fun z => ?_⟩
  obtain ⟨x, y, q, _⟩ := hp
  subst z
  rw [q] at h
  cases h
theorem KindAt.same {C : Addr} {H H' : Hp} {a : Addr} {r : Row} (h : KindAt C H a r) (e : Same H H') : KindAt C H' a r := let ⟨dx, h⟩ := h; ⟨dx, e _ _ h⟩
theorem NameOk.sign {s : Str} (h : NameOk s) : (s.cps.all fun c => decide (c < 0x110000)) = true := by
  rw [Array.all_eq_true_iff_forall_mem]
  intro c hc
  have all : ∀ c ∈ letters.cps.toList, decide (c < 0x110000) = true := by decide +kernel
  exact all c (h.2.2 c (Array.mem_toList_iff.mpr hc))
theorem small_log {i : Int} (h0 : 0 ≤ i) (h1 : i ≤ 999) : i.natAbs.log2 < 1920 := by
  have h : i.natAbs < 2 ^ 10 := by omega
  by_cases z : i.natAbs = 0
  · rw [z]; decide
  · exact Nat.lt_of_lt_of_le ((Nat.log2_lt z).mpr h) (by decide)
theorem Row.odd {r : Row} (ok : KindOk r) (H : Hp) : ∀ v ∈ r.six.vs, Odd H v := by
  have nm : ∀ s, NameOk s → Odd H (.str s) := fun s h => .str s (by have := h.2.1; omega) h.sign
  have op : ∀ o : Option Str, (∀ x, o = some x → NameOk x) → Odd H (ov o) := fun o h => by
    cases o with
    | none => exact .non
    | some s => exact nm s (h s rfl)
  intro v hv
  simp only [Row.six, Six.vs, List.mem_cons, List.mem_nil_iff, or_false] at hv
  rcases hv with rfl | rfl | rfl | rfl | rfl | rfl
  · exact nm _ ok.name
  · exact .int _ (small_log ok.takes.1 (by have := ok.takes.2; omega))
  · exact .int _ (small_log ok.makes.1 (by have := ok.makes.2; omega))
  · exact op _ ok.back
  · exact op _ ok.mirror
  · exact .int _ (small_log ok.yarn.1 ok.yarn.2)
theorem good_ov {o : Option Str} (h : ∀ x, o = some x → NameOk x) : goodO (ov o) = true := by
  cases o with
  | none => rfl
  | some s => exact decide_eq_true (h s rfl)
theorem Row.sound {r : Row} (ok : KindOk r) : r.six.fault = none := by
  have g1 : goodN r.six.n = true := decide_eq_true ok.name
  have g2 : goodO r.six.b = true := good_ov ok.back
  have g3 : goodO r.six.i = true := good_ov ok.mirror
  have g4 : goodI 6 r.six.t = true := by show (decide _ && decide _) = true; rw [decide_eq_true ok.takes.1, decide_eq_true ok.takes.2]; rfl
  have g5 : goodI 6 r.six.m = true := by show (decide _ && decide _) = true; rw [decide_eq_true ok.makes.1, decide_eq_true ok.makes.2]; rfl
  have g6 : goodI 999 r.six.y = true := by show (decide _ && decide _) = true; rw [decide_eq_true ok.yarn.1, decide_eq_true ok.yarn.2]; rfl
  have g7 : (isZ r.six.t && isZ r.six.m) = false := by
    show (decide (r.takes = 0) && decide (r.makes = 0)) = false
    have := ok.some_
    by_cases h : r.takes = 0
    · have h2 : ¬ r.makes = 0 := fun z => this ⟨h, z⟩
      simp [h2]
    · simp [h]
  simp [Six.fault, g1, g2, g3, g4, g5, g6, g7]
def spGetK (C : Addr) (g : Row → V) : Sp := fun vs H Q _ => ∃ (a : Addr) (r : Row), vs = [.ref a] ∧ KindAt C H a r ∧ Q (g r) H
abbrev PK' (P : Program) (w : World) (K : PySem.W.Frag) (mg : Str → Option Value) (base : Heap) (C : Addr) (x : Str) (g : Row → V) : Prop := HasP P w K mg base C x 1 (spGetK C g)
def rowV (r : Row) : List V := [.str r.name, .int r.takes, .int r.makes, ov r.back, ov r.mirror, .int r.yarn]
def od : Option Str → PyData
  | none => .none
  | some s => .str s
def rowD (r : Row) : List PyData := [.str r.name, .int r.takes, .int r.makes, od r.back, od r.mirror, .int r.yarn]
theorem dp_ov {K : PySem.W.Frag} {H : Hp} : ∀ o : Option Str, Dp K H (ov o) (od o)
  | none => .non
  | some s => .str s
theorem dp_row {K : PySem.W.Frag} {H : Hp} (r : Row) : DpAll K H (rowV r) (rowD r) := .cons (.str _) (.cons (.int _) (.cons (.int _) (.cons (dp_ov _) (.cons (dp_ov _) (.cons (.int _) .nil)))))
def spRowOf (C : Addr) : Sp := fun vs H Q _ => ∃ (a : Addr) (r : Row), vs = [.ref a] ∧ KindAt C H a r ∧ ∀ t, H t = none → Q (.ref t) (upd H t (.tup (rowV r)))
theorem shaped_row {r : Row} (h : KindOk r) : SeqAt.shaped (.tuple (rowD r)) = true := by
  have n : PyData.strOk r.name = true := h.name.sign
  have o : ∀ o : Option Str, (∀ x, o = some x → NameOk x) → PyData.canLay0 (od o) = true ∧ PyData.depth (od o) = 0 := fun o ho => by
    cases o with
    | none => exact ⟨rfl, rfl⟩
    | some s => exact ⟨(ho s rfl).sign, rfl⟩
  obtain ⟨b1, b2⟩ := o _ h.back
  obtain ⟨m1, m2⟩ := o _ h.mirror
  simp [SeqAt.shaped, rowD, PyData.canLay0, PyData.canLayAll0, PyData.depth, PyData.depthAll, n, b1, b2, m1, m2]
def spEqK (K : PySem.W.Frag) (C : Addr) : Sp := fun vs H Q _ => ∃ (a : Addr) (o : V) (r : Row), vs = [.ref a, o] ∧ KindAt C H a r ∧ KindOk r ∧
  ((∃ b u, o = .ref b ∧ KindAt C H b u ∧ KindOk u ∧ ∀ H', Same H H' → Q (.bl (PyData.eqv (.tuple (rowD r)) (.tuple (rowD u)))) H') ∨ ∃ T, TyX K H o (.type T) ∧ PySem.W.subIn K (.type T) (.ref C) = some false ∧ Q (.bl false) H)
section
variable {P : Program} {w : World} {K : PySem.W.Frag} {mg : Str → Option Value} {base : Heap} {C : Addr} {Cs : Nat → Addr}
abbrev s_Kind_name : Stmt := inClass (top 26) 1
theorem sc_Kind_name : FnScope ["self"] ["self"] (defScope s_Kind_name) := ⟨rfl, rfl, rfl, by decide +kernel, rfl, by decide +kernel, by decide +kernel⟩
theorem p_name (T : KindT K mg C Cs) (F : PropAt K C "name" "Kind.name" s_Kind_name) : PK' P w K mg base C "name" fun r => .str r.name := by
  refine hasP_of F sc_Kind_name (fun _ _ _ _ _ _ us hl => match us, hl with | [_], _ => rfl) (fun vs H Q E h => ?_) (fun f cdv A outer s H vs Q E hr h => ?_)
  · obtain ⟨_, _, rfl, _⟩ := h
    rfl
  · obtain ⟨a, r, rfl, ⟨dx, ha⟩, q⟩ := h
    refine ⟨_, (pss_one (ps_ret (pe_fld (pv 0) rfl))), ?_⟩
    exact ⟨_, rfl, a, C, dx, _, _, rfl, ha, T.cl, T.n0, rfl, q⟩
abbrev s_Kind_takes : Stmt := inClass (top 26) 3
theorem sc_Kind_takes : FnScope ["self"] ["self"] (defScope s_Kind_takes) := ⟨rfl, rfl, rfl, by decide +kernel, rfl, by decide +kernel, by decide +kernel⟩
theorem p_takes (T : KindT K mg C Cs) (F : PropAt K C "takes" "Kind.takes" s_Kind_takes) : PK' P w K mg base C "takes" fun r => .int r.takes := by
  refine hasP_of F sc_Kind_takes (fun _ _ _ _ _ _ us hl => match us, hl with | [_], _ => rfl) (fun vs H Q E h => ?_) (fun f cdv A outer s H vs Q E hr h => ?_)
  · obtain ⟨_, _, rfl, _⟩ := h
    rfl
  · obtain ⟨a, r, rfl, ⟨dx, ha⟩, q⟩ := h
    refine ⟨_, (pss_one (ps_ret (pe_fld (pv 0) rfl))), ?_⟩
    exact ⟨_, rfl, a, C, dx, _, _, rfl, ha, T.cl, T.n1, rfl, q⟩
abbrev s_Kind_makes : Stmt := inClass (top 26) 4
theorem sc_Kind_makes : FnScope ["self"] ["self"] (defScope s_Kind_makes) := ⟨rfl, rfl, rfl, by decide +kernel, rfl, by decide +kernel, by decide +kernel⟩
theorem p_makes (T : KindT K mg C Cs) (F : PropAt K C "makes" "Kind.makes" s_Kind_makes) : PK' P w K mg base C "makes" fun r => .int r.makes := by
  refine hasP_of F sc_Kind_makes (fun _ _ _ _ _ _ us hl => match us, hl with | [_], _ => rfl) (fun vs H Q E h => ?_) (fun f cdv A outer s H vs Q E hr h => ?_)
  · obtain ⟨_, _, rfl, _⟩ := h
    rfl
  · obtain ⟨a, r, rfl, ⟨dx, ha⟩, q⟩ := h
    refine ⟨_, (pss_one (ps_ret (pe_fld (pv 0) rfl))), ?_⟩
    exact ⟨_, rfl, a, C, dx, _, _, rfl, ha, T.cl, T.n2, rfl, q⟩
abbrev s_Kind_back : Stmt := inClass (top 26) 5
theorem sc_Kind_back : FnScope ["self"] ["self"] (defScope s_Kind_back) := ⟨rfl, rfl, rfl, by decide +kernel, rfl, by decide +kernel, by decide +kernel⟩
theorem p_back (T : KindT K mg C Cs) (F : PropAt K C "back" "Kind.back" s_Kind_back) : PK' P w K mg base C "back" fun r => ov r.back := by
  refine hasP_of F sc_Kind_back (fun _ _ _ _ _ _ us hl => match us, hl with | [_], _ => rfl) (fun vs H Q E h => ?_) (fun f cdv A outer s H vs Q E hr h => ?_)
  · obtain ⟨_, _, rfl, _⟩ := h
    rfl
  · obtain ⟨a, r, rfl, ⟨dx, ha⟩, q⟩ := h
    refine ⟨_, (pss_one (ps_ret (pe_fld (pv 0) rfl))), ?_⟩
    exact ⟨_, rfl, a, C, dx, _, _, rfl, ha, T.cl, T.n3, rfl, q⟩
abbrev s_Kind_mirror : Stmt := inClass (top 26) 6
theorem sc_Kind_mirror : FnScope ["self"] ["self"] (defScope s_Kind_mirror) := ⟨rfl, rfl, rfl, by decide +kernel, rfl, by decide +kernel, by decide +kernel⟩
theorem p_mirror (T : KindT K mg C Cs) (F : PropAt K C "mirror" "Kind.mirror" s_Kind_mirror) : PK' P w K mg base C "mirror" fun r => ov r.mirror := by
  refine hasP_of F sc_Kind_mirror (fun _ _ _ _ _ _ us hl => match us, hl with | [_], _ => rfl) (fun vs H Q E h => ?_) (fun f cdv A outer s H vs Q E hr h => ?_)
  · obtain ⟨_, _, rfl, _⟩ := h
    rfl
  · obtain ⟨a, r, rfl, ⟨dx, ha⟩, q⟩ := h
    refine ⟨_, (pss_one (ps_ret (pe_fld (pv 0) rfl))), ?_⟩
    exact ⟨_, rfl, a, C, dx, _, _, rfl, ha, T.cl, T.n4, rfl, q⟩
abbrev s_Kind_yarn : Stmt := inClass (top 26) 7
theorem sc_Kind_yarn : FnScope ["self"] ["self"] (defScope s_Kind_yarn) := ⟨rfl, rfl, rfl, by decide +kernel, rfl, by decide +kernel, by decide +kernel⟩
theorem p_yarn (T : KindT K mg C Cs) (F : PropAt K C "yarn" "Kind.yarn" s_Kind_yarn) : PK' P w K mg base C "yarn" fun r => .int r.yarn := by
  refine hasP_of F sc_Kind_yarn (fun _ _ _ _ _ _ us hl => match us, hl with | [_], _ => rfl) (fun vs H Q E h => ?_) (fun f cdv A outer s H vs Q E hr h => ?_)
  · obtain ⟨_, _, rfl, _⟩ := h
    rfl
  · obtain ⟨a, r, rfl, ⟨dx, ha⟩, q⟩ := h
    refine ⟨_, (pss_one (ps_ret (pe_fld (pv 0) rfl))), ?_⟩
    exact ⟨_, rfl, a, C, dx, _, _, rfl, ha, T.cl, T.n5, rfl, q⟩
abbrev s__numbers_and_names : Stmt := top 28
theorem sc__numbers_and_names : FnScope ["kind"] ["kind"] (defScope s__numbers_and_names) := ⟨rfl, rfl, rfl, by decide +kernel, rfl, by decide +kernel, by decide +kernel⟩
theorem h_rows (T : KindT K mg C Cs) (F : FunAt K mg "_numbers_and_names" "_numbers_and_names" s__numbers_and_names) (p1 : PK' P w K mg base C "name" fun r => .str r.name) (p2 : PK' P w K mg base C "takes" fun r => .int r.takes) (p3 : PK' P w K mg base C "makes" fun r => .int r.makes) (p4 : PK' P w K mg base C "back" fun r => ov r.back)
    (p5 : PK' P w K mg base C "mirror" fun r => ov r.mirror) (p6 : PK' P w K mg base C "yarn" fun r => .int r.yarn) : Has P w K mg base "_numbers_and_names" 3 ["kind"] (spRowOf C) := by
  refine has_of F sc__numbers_and_names (fun _ _ _ _ _ _ us hl => match us, hl with | [_], _ => rfl) (fun vs H Q E h => ?_) (fun f cdv A outer s H vs Q E hr h => ?_)
  · obtain ⟨_, _, rfl, _⟩ := h
    rfl
  · obtain ⟨a, r, rfl, hk, q⟩ := h
    obtain ⟨dx, ha⟩ := id hk
    refine ⟨_, (pss_one (ps_ret (pe_tup (pa_cons (pe_hasP p1 T.cl (hr.mono (by decide)) (pv 0)) (pa_cons (pe_hasP p2 T.cl (hr.mono (by decide)) (pv 0)) (pa_cons (pe_hasP p3 T.cl (hr.mono (by decide)) (pv 0)) (pa_cons (pe_hasP p4 T.cl (hr.mono (by decide)) (pv 0)) (pa_cons (pe_hasP p5 T.cl (hr.mono (by decide)) (pv 0)) (pa_cons (pe_hasP p6 T.cl (hr.mono (by decide)) (pv 0)) pa_nil))))))))), ?_⟩
    exact ⟨_, rfl, a, dx, _, rfl, ha, a, r, rfl, hk, _, rfl, a, dx, _, rfl, ha, a, r, rfl, hk, _, rfl, a, dx, _, rfl, ha, a, r, rfl, hk, _, rfl, a, dx, _, rfl, ha, a, r, rfl, hk, _, rfl, a, dx, _, rfl, ha, a, r, rfl, hk, _, rfl, a, dx, _, rfl, ha, a, r, rfl, hk, (by show 6 ≤ sizeLine; decide), fun t nt => q t nt⟩
abbrev s_Kind___eq__ : Stmt := inClass (top 26) 8
theorem sc_KindD_eqD : FnScope ["self", "other"] ["self", "other"] (defScope s_Kind___eq__) := ⟨rfl, rfl, rfl, by decide +kernel, rfl, by decide +kernel, by decide +kernel⟩
theorem m_eqK (B : Blts mg) (T : KindT K mg C Cs) (F : MethAt K C "__eq__" "Kind.__eq__" s_Kind___eq__) (h_numbers_and_names : Has P w K mg base "_numbers_and_names" 3 ["kind"] (spRowOf C)) : HasM P w K mg base C "__eq__" 4 ["self", "other"] (spEqK K C) := by
  refine hasM_of F sc_KindD_eqD (fun _ _ _ _ _ _ us hl => match us, hl with | [_, _], _ => rfl) (fun vs H Q E h => ?_) (fun f cdv A outer s H vs Q E hr h => ?_)
  · obtain ⟨_, _, _, rfl, _⟩ := h
    rfl
  · obtain ⟨a, o, r, rfl, hf, okr, ho⟩ := h
    refine ⟨_, (pss_one (ps_ret (pe_and (pe_callB call_isi (by rfl) B.n_isinstance (by decide +kernel) (pa_cons (pv 1) (pa_cons (pe_glob (v := .ref C) rfl T.g rfl) pa_nil))) (pe_one (pe_cmpR (op_eqD hr.units) (pe_has h_numbers_and_names (hr.mono (by decide)) (pa_cons (pv 0) pa_nil)) (pe_has h_numbers_and_names (hr.mono (by decide)) (pa_cons (pv 1) pa_nil)) (by first | exact nomark _ | rfl)))))), ?_⟩
    rcases ho with ⟨b, u, rfl, hb, oku, k⟩ | ⟨T', hT, hs, q⟩
    · obtain ⟨db, hb'⟩ := id hb
      refine ⟨_, rfl, _, _, _, _, true, rfl, .own C, T.own.ty hb', kit_self, true, rfl, ?_⟩
      refine iteT ?_
      refine ⟨_, rfl, a, r, rfl, hf, fun t ht => ?_⟩
      refine ⟨_, rfl, b, u, rfl, hb.same (Same.new ht), fun z hz => ?_⟩
      exact ⟨.tuple (rowD r), .tuple (rowD u), .tup (SqT.of (Same.new hz _ _ upd_same)) (dp_row r), .tup (SqT.of upd_same) (dp_row u), shaped_row okr, shaped_row oku, k _ ((Same.new ht).trans (Same.new hz))⟩
    · refine ⟨_, rfl, _, _, _, _, false, rfl, .own C, hT, T.own.kit hs, false, rfl, ?_⟩
      refine iteF ?_
      exact q
/-- Kind(n, t, m, back=b, mirror=i, yarn=y) -/
theorem hKind3 (B : Blts mg) (G : Globs mg) (T : KindT K mg C Cs) (I : InitAt K mg "Kind" C "Kind.__init__" s_Kind___init__ [] [("back", .non), ("mirror", .non), ("yarn", .int 1)])
    (his_name : Has P w K mg base "is_name" 1 ["value"] spIsName) (his_count_to : Has P w K mg base "is_count_to" 3 ["value", "most"] spCountTo) :
    MakX P w K mg base "Kind" C 4 3 ["self", "name", "takes", "makes", "back", "mirror", "yarn"] ["back", "mirror", "yarn"] (spKind C Cs) (fun vs zs => vs ++ zs) := by
  obtain ⟨f, fd, hm, M, F⟩ := I.ex
  obtain ⟨mv, hb⟩ := F.kbinds0 (ps := ["self", "name", "takes", "makes", "back", "mirror", "yarn"]) 4 ["back", "mirror", "yarn"] [] (fun us _ ws => us ++ ws) (by simp) (fun _ h => nomatch h) (fun a _ c => a.append c)
    (fun D doc pm an cdv ct us mv ws hu hm hw => match us, mv, ws, hu, hm, hw with | [_, _, _, _], [], [_, _, _], _, _, _ => rfl)
  exact ⟨f, fd, _, hm, M, hb, ok_kind B G T F his_name his_count_to⟩
/-- Kind(yarn=y, mirror=i, back=b, makes=m, takes=t, name=n) -/
def turn6 {α : Type} : List α → List α → List α
  | [p], [y, i, b, m, t, n] => [p, n, t, m, b, i, y]
  | l, _ => l
theorem vals_turn6 : ∀ {vs zs : List V} {us ws : List Value}, Vals vs us → Vals zs ws → Vals (turn6 vs zs) (turn6 us ws) := by
  intro vs zs us ws r1 r2
  cases r1 with
  | nil => exact .nil
  | cons a r1 =>
    cases r1 with
    | cons b c => exact .cons a (.cons b c)
    | nil =>
      cases r2 with
      | nil => exact .cons a .nil
      | cons y r2 => cases r2 with
        | nil => exact .cons a .nil
        | cons i r2 => cases r2 with
          | nil => exact .cons a .nil
          | cons bb r2 => cases r2 with
            | nil => exact .cons a .nil
            | cons m r2 => cases r2 with
              | nil => exact .cons a .nil
              | cons t r2 => cases r2 with
                | nil => exact .cons a .nil
                | cons n r2 => cases r2 with
                  | nil => exact .cons a (.cons n (.cons t (.cons m (.cons bb (.cons i (.cons y .nil))))))
                  | cons _ _ => exact .cons a .nil
theorem hKind6 (B : Blts mg) (G : Globs mg) (T : KindT K mg C Cs) (I : InitAt K mg "Kind" C "Kind.__init__" s_Kind___init__ [] [("back", .non), ("mirror", .non), ("yarn", .int 1)])
    (his_name : Has P w K mg base "is_name" 1 ["value"] spIsName) (his_count_to : Has P w K mg base "is_count_to" 3 ["value", "most"] spCountTo) :
    MakX P w K mg base "Kind" C 4 0 ["self", "name", "takes", "makes", "back", "mirror", "yarn"] ["yarn", "mirror", "back", "makes", "takes", "name"] (spKind C Cs) turn6 := by
  obtain ⟨f, fd, hm, M, F⟩ := I.ex
  obtain ⟨mv, hb⟩ := F.kbinds0 (ps := ["self", "name", "takes", "makes", "back", "mirror", "yarn"]) 1 ["yarn", "mirror", "back", "makes", "takes", "name"] [] (fun us _ ws => turn6 us ws) (by simp) (fun _ h => nomatch h) (fun a _ c => vals_turn6 a c)
    (fun D doc pm an cdv ct us mv ws hu hm hw => match us, mv, ws, hu, hm, hw with | [_], [], [_, _, _, _, _, _], _, _, _ => rfl)
  exact ⟨f, fd, _, hm, M, hb, ok_kind B G T F his_name his_count_to⟩
/-- Kind(n, t, m) -/
theorem hKindD (B : Blts mg) (G : Globs mg) (T : KindT K mg C Cs) (I : InitAt K mg "Kind" C "Kind.__init__" s_Kind___init__ [] [("back", .non), ("mirror", .non), ("yarn", .int 1)])
    (his_name : Has P w K mg base "is_name" 1 ["value"] spIsName) (his_count_to : Has P w K mg base "is_count_to" 3 ["value", "most"] spCountTo) :
    MakD P w K mg base "Kind" C 4 ["self", "name", "takes", "makes", "back", "mirror", "yarn"] (spKind C Cs) [.non, .non, .int 1] := by
  obtain ⟨f, fd, hm, M, F⟩ := I.ex
  obtain ⟨ds, hd, hb⟩ := F.binds0 (ps := ["self", "name", "takes", "makes", "back", "mirror", "yarn"]) 4 (by simp) rfl
    (fun D doc pm an cdv ct us ws hu hw => match us, ws, hu, hw with | [_, _, _, _], [_, _, _], _, _ => ⟨_, _, _, _, _, _, rfl, rfl, _, _, _, _, _, _, rfl, rfl, _, _, _, _, _, _, rfl, rfl, rfl⟩)
  exact ⟨f, fd, ds, hm, M, hb, hd, ok_kind B G T F his_name his_count_to⟩
end
end N

set_option maxHeartbeats 4000000
namespace L2
theorem Room.u1 {k : Nat} {A : PySem.Around} (r : Room k A) : A.units + 1 < PySem.cLine := by have := r.units; omega
end L2
namespace N
open PySem L2
def Twins (r u : Row) : Prop := r.takes = u.takes ∧ r.makes = u.makes
def spLoops (C : Addr) : Sp := fun vs H Q _ => ∃ (a b : Addr) (r u : Row), vs = [.ref a, .ref b] ∧ KindAt C H a r ∧ KindAt C H b u ∧ Twins r u ∧ Q (.bl true) H
def spIsBack (C : Addr) : Sp := fun vs H Q _ => ∃ (a b : Addr) (u r : Row), vs = [.ref a, .ref b] ∧ KindAt C H a u ∧ KindAt C H b r ∧ u.back = some r.name ∧ Twins u r ∧ Q (.bl true) H
def spIsMirror (C : Addr) : Sp := fun vs H Q _ => ∃ (a b : Addr) (u r : Row), vs = [.ref a, .ref b] ∧ KindAt C H a u ∧ KindAt C H b r ∧ u.mirror = some r.name ∧ Twins u r ∧ Q (.bl true) H
def spAgree (C : Addr) : Sp := fun vs H Q _ => ∃ (d b a1 a2 : Addr) (kvs : List (Key × V)) (r u w : Row) (x y z : Str), vs = [.ref d, .ref b] ∧ H d = some (.dK kvs) ∧ KindAt C H b r ∧ r.back = some x ∧ r.mirror = some y ∧
  valV kvs (.inr x) = some (.ref a1) ∧ KindAt C H a1 u ∧ valV kvs (.inr y) = some (.ref a2) ∧ KindAt C H a2 w ∧ u.mirror = some z ∧ w.back = some z ∧ Q (.bl true) H
section
variable {P : Program} {w : World} {K : PySem.W.Frag} {mg : Str → Option Value} {base : Heap} {C : Addr} {Cs : Nat → Addr}
abbrev s__same_loops : Stmt := top 32
theorem sc__same_loops : FnScope ["one", "other"] ["one", "other"] (defScope s__same_loops) := ⟨rfl, rfl, rfl, by decide +kernel, rfl, by decide +kernel, by decide +kernel⟩
theorem h_same_loops (T : KindT K mg C Cs) (F : FunAt K mg "_same_loops" "_same_loops" s__same_loops) (p2 : PK' P w K mg base C "takes" fun r => .int r.takes) (p3 : PK' P w K mg base C "makes" fun r => .int r.makes) : Has P w K mg base "_same_loops" 3 ["one", "other"] (spLoops C) := by
  refine has_of F sc__same_loops (fun _ _ _ _ _ _ us hl => match us, hl with | [_, _], _ => rfl) (fun vs H Q E h => ?_) (fun f cdv A outer s H vs Q E hr h => ?_)
  · obtain ⟨_, _, _, _, rfl, _⟩ := h
    rfl
  · obtain ⟨a, b, r, u, rfl, ha, hb, ⟨e1, e2⟩, q⟩ := h
    obtain ⟨da, ha'⟩ := id ha
    obtain ⟨db, hb'⟩ := id hb
    refine ⟨_, (pss_one (ps_ret (pe_and (pe_cmpR op_eq (pe_hasP p2 T.cl (hr.mono (by decide)) (pv 0)) (pe_hasP p2 T.cl (hr.mono (by decide)) (pv 1)) (by first | exact nomark _ | rfl)) (pe_one (pe_cmpR op_eq (pe_hasP p3 T.cl (hr.mono (by decide)) (pv 0)) (pe_hasP p3 T.cl (hr.mono (by decide)) (pv 1)) (by first | exact nomark _ | rfl)))))), ?_⟩
    refine ⟨_, rfl, a, da, _, rfl, ha', a, r, rfl, ha, _, rfl, b, db, _, rfl, hb', b, u, rfl, hb, rfl, _, rfl, ite2 (fun _ => ?_) (fun c => absurd (decide_eq_true (congrArg V.int e1)) c)⟩
    refine ⟨_, rfl, a, da, _, rfl, ha', a, r, rfl, ha, _, rfl, b, db, _, rfl, hb', b, u, rfl, hb, rfl, ?_⟩
    show Q (.bl (decide (V.int r.makes = V.int u.makes))) H
    rw [decide_eq_true (congrArg V.int e2)]
    exact q
abbrev s__is_back : Stmt := top 30
theorem sc__is_back : FnScope ["twin", "kind"] ["twin", "kind"] (defScope s__is_back) := ⟨rfl, rfl, rfl, by decide +kernel, rfl, by decide +kernel, by decide +kernel⟩
theorem h_is_back (T : KindT K mg C Cs) (F : FunAt K mg "_is_back" "_is_back" s__is_back) (p1 : PK' P w K mg base C "name" fun r => .str r.name) (p4 : PK' P w K mg base C "back" fun r => ov r.back) (h_same_loops : Has P w K mg base "_same_loops" 3 ["one", "other"] (spLoops C)) : Has P w K mg base "_is_back" 4 ["twin", "kind"] (spIsBack C) := by
  refine has_of F sc__is_back (fun _ _ _ _ _ _ us hl => match us, hl with | [_, _], _ => rfl) (fun vs H Q E h => ?_) (fun f cdv A outer s H vs Q E hr h => ?_)
  · obtain ⟨_, _, _, _, rfl, _⟩ := h
    rfl
  · obtain ⟨a, b, u, r, rfl, ha, hb, e, tw, q⟩ := h
    obtain ⟨da, ha'⟩ := id ha
    obtain ⟨db, hb'⟩ := id hb
    refine ⟨_, (pss_one (ps_ret (pe_and (pe_cmpR op_notN (pv 0) pe_non (by first | exact nomark _ | rfl)) (pe_and (pe_cmpR op_eq (pe_hasP p4 T.cl (hr.mono (by decide)) (pv 0)) (pe_hasP p1 T.cl (hr.mono (by decide)) (pv 1)) (by first | exact nomark _ | rfl)) (pe_one (pe_has h_same_loops (hr.mono (by decide)) (pa_cons (pv 0) (pa_cons (pv 1) pa_nil)))))))), ?_⟩
    refine ⟨_, rfl, rfl, true, rfl, iteT ?_⟩
    refine ⟨_, rfl, a, da, _, rfl, ha', a, u, rfl, ha, _, rfl, b, db, _, rfl, hb', b, r, rfl, hb, ?_⟩
    dsimp only
    rw [e]
    refine ⟨rfl, _, rfl, ite2 (fun _ => ?_) (fun c => absurd (decide_eq_true rfl) c)⟩
    exact ⟨_, rfl, _, rfl, a, b, u, r, rfl, ha, hb, tw, q⟩
abbrev s__is_mirror : Stmt := top 31
theorem sc__is_mirror : FnScope ["twin", "kind"] ["twin", "kind"] (defScope s__is_mirror) := ⟨rfl, rfl, rfl, by decide +kernel, rfl, by decide +kernel, by decide +kernel⟩
theorem h_is_mirror (T : KindT K mg C Cs) (F : FunAt K mg "_is_mirror" "_is_mirror" s__is_mirror) (p1 : PK' P w K mg base C "name" fun r => .str r.name) (p5 : PK' P w K mg base C "mirror" fun r => ov r.mirror) (h_same_loops : Has P w K mg base "_same_loops" 3 ["one", "other"] (spLoops C)) : Has P w K mg base "_is_mirror" 4 ["twin", "kind"] (spIsMirror C) := by
  refine has_of F sc__is_mirror (fun _ _ _ _ _ _ us hl => match us, hl with | [_, _], _ => rfl) (fun vs H Q E h => ?_) (fun f cdv A outer s H vs Q E hr h => ?_)
  · obtain ⟨_, _, _, _, rfl, _⟩ := h
    rfl
  · obtain ⟨a, b, u, r, rfl, ha, hb, e, tw, q⟩ := h
    obtain ⟨da, ha'⟩ := id ha
    obtain ⟨db, hb'⟩ := id hb
    refine ⟨_, (pss_one (ps_ret (pe_and (pe_cmpR op_notN (pv 0) pe_non (by first | exact nomark _ | rfl)) (pe_and (pe_cmpR op_eq (pe_hasP p5 T.cl (hr.mono (by decide)) (pv 0)) (pe_hasP p1 T.cl (hr.mono (by decide)) (pv 1)) (by first | exact nomark _ | rfl)) (pe_one (pe_has h_same_loops (hr.mono (by decide)) (pa_cons (pv 0) (pa_cons (pv 1) pa_nil)))))))), ?_⟩
    refine ⟨_, rfl, rfl, true, rfl, iteT ?_⟩
    refine ⟨_, rfl, a, da, _, rfl, ha', a, u, rfl, ha, _, rfl, b, db, _, rfl, hb', b, r, rfl, hb, ?_⟩
    dsimp only
    rw [e]
    refine ⟨rfl, _, rfl, ite2 (fun _ => ?_) (fun c => absurd (decide_eq_true rfl) c)⟩
    exact ⟨_, rfl, _, rfl, a, b, u, r, rfl, ha, hb, tw, q⟩
abbrev s__both_agree : Stmt := top 33
theorem sc__both_agree : FnScope ["table", "kind", "behind", "mirrored"] ["table", "kind"] (defScope s__both_agree) := ⟨rfl, rfl, rfl, by decide +kernel, rfl, by decide +kernel, by decide +kernel⟩
theorem h_both_agree (T : KindT K mg C Cs) (F : FunAt K mg "_both_agree" "_both_agree" s__both_agree) (p4 : PK' P w K mg base C "back" fun r => ov r.back) (p5 : PK' P w K mg base C "mirror" fun r => ov r.mirror) : Has P w K mg base "_both_agree" 3 ["table", "kind"] (spAgree C) := by
  refine has_of F sc__both_agree (fun _ _ _ _ _ _ us hl => match us, hl with | [_, _], _ => rfl) (fun vs H Q E h => ?_) (fun f cdv A outer s H vs Q E hr h => ?_)
  · obtain ⟨_, _, _, _, _, _, _, _, _, _, _, rfl, _⟩ := h
    rfl
  · obtain ⟨d, b, a1, a2, kvs, r, u, v, x, y, z, rfl, hd, hb, ex, ey, g1, h1, g2, h2, eu, ev, q⟩ := h
    obtain ⟨db, hb'⟩ := id hb
    obtain ⟨d1, h1'⟩ := id h1
    obtain ⟨d2, h2'⟩ := id h2
    refine ⟨_, (pss_cons (ps_set (i := 2) sc__both_agree.nd rfl (Or.inl rfl) (pe_dget hr.u1 (pv 0) (pe_hasP p4 T.cl (hr.mono (by decide)) (pv 1)) (fun _ _ => rfl)))
      (pss_cons (ps_set (i := 3) sc__both_agree.nd rfl (Or.inl rfl) (pe_dget hr.u1 (pv 0) (pe_hasP p5 T.cl (hr.mono (by decide)) (pv 1)) (fun _ _ => rfl)))
      (pss_one (ps_ret (pe_and (pe_cmpR op_notN (pe_hasP p5 T.cl (hr.mono (by decide)) (pv 2)) pe_non (by first | exact nomark _ | rfl)) (pe_one (pe_cmpR op_eq (pe_hasP p5 T.cl (hr.mono (by decide)) (pv 2)) (pe_hasP p4 T.cl (hr.mono (by decide)) (pv 3)) (by first | exact nomark _ | rfl)))))))), ?_⟩
    refine ⟨_, rfl, _, rfl, b, db, _, rfl, hb', b, r, rfl, hb, d, .ref a1, rfl, .inl ⟨kvs, .inr x, .inl hd, by show ov r.back = _; rw [ex]; rfl, g1.symm⟩, ?_⟩
    refine ⟨_, rfl, _, rfl, b, db, _, rfl, hb', b, r, rfl, hb, d, .ref a2, rfl, .inl ⟨kvs, .inr y, .inl hd, by show ov r.mirror = _; rw [ey]; rfl, g2.symm⟩, ?_⟩
    refine ⟨_, rfl, a1, d1, _, rfl, h1', a1, u, rfl, h1, ?_⟩
    dsimp only
    rw [eu]
    refine ⟨rfl, true, rfl, iteT ?_⟩
    refine ⟨_, rfl, a1, d1, _, rfl, h1', a1, u, rfl, h1, _, rfl, a2, d2, _, rfl, h2', a2, v, rfl, h2, ?_⟩
    dsimp only
    rw [eu, ev]
    refine ⟨rfl, ?_⟩
    rw [decide_eq_true rfl]
    exact q
end
end N

set_option maxHeartbeats 4000000
namespace N
open PySem L2
def tab (as : List Addr) (rs : List Row) : List (Key × V) := List.zipWith (fun a r => ((.inr r.name : Key), V.ref a)) as rs
theorem tab_find {C : Addr} {H : Hp} : ∀ {as : List Addr} {rs : List Row}, Paired (KindAt C H) as rs → (rs.map (·.name)).Nodup → ∀ u ∈ rs, ∃ b, valV (tab as rs) (.inr u.name) = some (.ref b) ∧ KindAt C H b u
  | _, _, .nil, _, u, h => nomatch h
  | _, _, .cons (a := a) (b := r) x y, nd, u, h => by
    rw [List.map_cons, List.nodup_cons] at nd
    rcases List.mem_cons.mp h with e | h
    · subst e
      exact ⟨a, valV_pos rfl, x⟩
    · obtain ⟨b, g, k⟩ := tab_find y nd.2 u h
      refine ⟨b, ?_, k⟩
      refine Eq.trans (valV_neg fun e => nd.1 ?_) g
      have e' : r.name = u.name := Sum.inr.inj e
      rw [e']
      exact List.mem_map_of_mem h
theorem tab_snoc {as : List Addr} {rs : List Row} {i : Nat} {a : Addr} {r : Row} (ha : as[i]? = some a) (hr : rs[i]? = some r) : tab (as.take (i + 1)) (rs.take (i + 1)) = tab (as.take i) (rs.take i) ++ [(.inr r.name, .ref a)] := by
  have l1 := (List.getElem?_eq_some_iff.mp ha).1
  have l2 := (List.getElem?_eq_some_iff.mp hr).1
  unfold tab
  rw [List.take_add_one, List.take_add_one, ha, hr, List.zipWith_append (by rw [List.length_take, List.length_take]; omega)]
  rfl
theorem tab_no {as : List Addr} {rs : List Row} {i : Nat} {r : Row} (nd : (rs.map (·.name)).Nodup) (hr : rs[i]? = some r) : valV (tab (as.take i) (rs.take i)) (.inr r.name) = none := by
  refine valV_no fun q hq e => ?_
  have mem : ∀ {as : List Addr} {ss : List Row} {q : Key × V}, q ∈ tab as ss → ∃ s ∈ ss, q.1 = .inr s.name := fun {as ss q} h => by
    induction as generalizing ss with
    | nil => simp [tab] at h
    | cons a as ih =>
      cases ss with
      | nil => simp [tab] at h
      | cons s ss =>
        rcases List.mem_cons.mp h with e | h
        · exact ⟨s, .head _, by rw [e]⟩
        · obtain ⟨z, hz, e⟩ := ih h
          exact ⟨z, .tail _ hz, e⟩
  obtain ⟨s, hs, es⟩ := mem hq
  have en : s.name = r.name := Sum.inr.inj (es.symm.trans e)
  obtain ⟨j, hj⟩ := List.getElem?_of_mem hs
  have hji : j < i := by
    have := (List.getElem?_eq_some_iff.mp hj).1
    rw [List.length_take] at this
    omega
  rw [List.getElem?_take_of_lt hji] at hj
  have li := (List.getElem?_eq_some_iff.mp hr).1
  have a1 : (rs.map (·.name))[j]? = some r.name := by rw [List.getElem?_map, hj]; exact congrArg some en
  have a2 : (rs.map (·.name))[i]? = some r.name := by rw [List.getElem?_map, hr]; rfl
  have := (List.getElem?_inj (by rw [List.length_map]; omega) nd).mp (a1.trans a2.symm)
  omega
theorem tab_len {as : List Addr} {rs : List Row} : (tab as rs).length ≤ as.length := by
  unfold tab
  rw [List.length_zipWith]
  exact Nat.min_le_left _ _
/-- what a book asks of its kinds beside their names -/
structure FitOk (rs : List Row) : Prop where
  back : ∀ r ∈ rs, ∀ x, r.back = some x → ∃ u ∈ rs, u.name = x ∧ u.back = some r.name ∧ u.takes = r.takes ∧ u.makes = r.makes
  mirror : ∀ r ∈ rs, ∀ x, r.mirror = some x → ∃ u ∈ rs, u.name = x ∧ u.mirror = some r.name ∧ u.takes = r.takes ∧ u.makes = r.makes
  agree : ∀ r ∈ rs, ∀ x y, r.back = some x → r.mirror = some y → ∃ u ∈ rs, ∃ w ∈ rs, u.name = x ∧ w.name = y ∧ u.mirror ≠ none ∧ u.mirror = w.back
theorem PartOk.fit {both : Bool} {rs : List Row} (h : PartOk both rs) : FitOk rs := ⟨h.back, h.mirror, h.agree⟩
def spCheck (K : PySem.W.Frag) (C : Addr) : Sp := fun vs H Q _ => ∃ (t : Addr) (as : List Addr) (rs : List Row), vs = [.ref t] ∧ SqT K H t (as.map V.ref) ∧ Paired (KindAt C H) as rs ∧ FitOk rs ∧ (rs.map (·.name)).Nodup ∧ as.length ≤ 1000 ∧ ∀ H', Same H H' → Q .non H'
section
variable {P : Program} {w : World} {K : PySem.W.Frag} {mg : Str → Option Value} {base : Heap} {C : Addr} {Cs : Nat → Addr}
abbrev s__check_kinds : Stmt := top 29
theorem sc__check_kinds : FnScope ["kinds", "table", "kind"] ["kinds"] (defScope s__check_kinds) := ⟨rfl, rfl, rfl, by decide +kernel, rfl, by decide +kernel, by decide +kernel⟩
theorem h_check_kinds (T : KindT K mg C Cs) (F : FunAt K mg "_check_kinds" "_check_kinds" s__check_kinds) (p1 : PK' P w K mg base C "name" fun r => .str r.name) (p4 : PK' P w K mg base C "back" fun r => ov r.back) (p5 : PK' P w K mg base C "mirror" fun r => ov r.mirror) (h_is_back : Has P w K mg base "_is_back" 4 ["twin", "kind"] (spIsBack C))
    (h_is_mirror : Has P w K mg base "_is_mirror" 4 ["twin", "kind"] (spIsMirror C)) (h_both_agree : Has P w K mg base "_both_agree" 3 ["table", "kind"] (spAgree C)) : Has P w K mg base "_check_kinds" 5 ["kinds"] (spCheck K C) := by
  refine has_of F sc__check_kinds (fun _ _ _ _ _ _ us hl => match us, hl with | [_], _ => rfl) (fun vs H Q E h => ?_) (fun f cdv A outer s H vs Q E hr h => ?_)
  · obtain ⟨_, _, _, rfl, _⟩ := h
    rfl
  · obtain ⟨t, as, rs, rfl, ht, hk, part, nd, hz, k⟩ := h
    refine ⟨_, (pss_cons (ps_set (i := 1) sc__check_kinds.nd rfl (Or.inl rfl) pe_dnewK)
      (pss_cons (ps_for PassesOwn.never rfl (pi_tup (pv 0)) (pg_name (i := 2) sc__check_kinds.nd rfl (Or.inl rfl))
        (pss_cons (ps_if (pt_cmp (pc_din hr.u1 (pe_hasP p1 T.cl (hr.mono (by decide)) (pv 2)) (pv 1))) (pss_one ps_never)
          pss_nil)
        (pss_one (ps_dput hr.u1 (pv 1) (pe_hasP p1 T.cl (hr.mono (by decide)) (pv 2)) (pv 2) rfl))))
      (pss_cons (ps_for PassesOwn.never rfl (pi_tup (pv 0)) (pg_name (i := 2) sc__check_kinds.nd rfl (Or.inl rfl))
        (pss_one (ps_if (PW.pt (pw_and (pt_cmpR op_notN (pe_hasP p4 T.cl (hr.mono (by decide)) (pv 2)) pe_non (by first | exact nomark _ | rfl)) (pw_and1 (pt_not (pt_val (pe_has h_is_back (hr.mono (by decide)) (pa_cons (pe_dget1 hr.u1 (pv 1) (pe_hasP p4 T.cl (hr.mono (by decide)) (pv 2)) ⟨rfl, rfl, rfl, rfl⟩) (pa_cons (pv 2) pa_nil)))))))) (pss_one ps_never)
          pss_nil)))
      (pss_cons (ps_for PassesOwn.never rfl (pi_tup (pv 0)) (pg_name (i := 2) sc__check_kinds.nd rfl (Or.inl rfl))
        (pss_one (ps_if (PW.pt (pw_and (pt_cmpR op_notN (pe_hasP p5 T.cl (hr.mono (by decide)) (pv 2)) pe_non (by first | exact nomark _ | rfl)) (pw_and1 (pt_not (pt_val (pe_has h_is_mirror (hr.mono (by decide)) (pa_cons (pe_dget1 hr.u1 (pv 1) (pe_hasP p5 T.cl (hr.mono (by decide)) (pv 2)) ⟨rfl, rfl, rfl, rfl⟩) (pa_cons (pv 2) pa_nil)))))))) (pss_one ps_never)
          pss_nil)))
      (pss_one (ps_for PassesOwn.never rfl (pi_tup (pv 0)) (pg_name (i := 2) sc__check_kinds.nd rfl (Or.inl rfl))
        (pss_one (ps_if (PW.pt (pw_and (pt_cmpR op_notN (pe_hasP p4 T.cl (hr.mono (by decide)) (pv 2)) pe_non (by first | exact nomark _ | rfl)) (pw_and (pt_cmpR op_notN (pe_hasP p5 T.cl (hr.mono (by decide)) (pv 2)) pe_non (by first | exact nomark _ | rfl)) (pw_and1 (pt_not (pt_val (pe_has h_both_agree (hr.mono (by decide)) (pa_cons (pv 1) (pa_cons (pv 2) pa_nil))))))))) (pss_one ps_never)
          pss_nil)))))))), ?_⟩
    refine fun d nd0 => ?_
    have len := paired_len hk
    refine ⟨_, rfl, t, rfl, ⟨as.map V.ref, (Same.new nd0).st ht⟩, for_tup (K := K) (a := t) (xs := as.map V.ref) (fun i σ H' => ∃ v : Option V, σ = [some (.ref t), some (.ref d), v] ∧ H' d = some (.dK (tab (as.take i) (rs.take i))) ∧ Same H H')
      ⟨none, rfl, by rw [upd_same]; rfl, Same.new nd0⟩ (fun i σ H' _ ⟨_, _, _, e⟩ => e.st ht) ?_ ?_⟩
    · rintro i x σ H' hx ⟨v, rfl, hd, e⟩
      obtain ⟨a, ha, rfl⟩ := map_at hx
      obtain ⟨r, hr', ka⟩ := paired_get hk ha
      obtain ⟨dx, ka'⟩ := ka.same e
      refine ⟨_, rfl, a, dx, _, rfl, ka', a, r, rfl, ka.same e, _, rfl, d, none, rfl, .inl ⟨_, .inr r.name, .inl hd, rfl, (tab_no nd hr').symm⟩, false, rfl, iteF ?_⟩
      refine ⟨_, rfl, _, rfl, _, rfl, a, dx, _, rfl, ka', a, r, rfl, ka.same e, d, _, rfl, .inl ⟨_, .inr r.name, hd, rfl, ?_, rfl⟩, ?_⟩
      · refine Nat.lt_of_le_of_lt tab_len ?_
        rw [List.length_take]
        exact Nat.lt_of_le_of_lt (Nat.le_trans (Nat.min_le_right _ _) hz) (by decide)
      · refine ⟨_, rfl, ?_, fun c o hc => (upd_ne (ne_of_none hc nd0)).trans (e c o hc)⟩
        rw [upd_same, putK_new _ (tab_no nd hr'), tab_snoc ha hr']
    · rintro σ H1 ⟨v, rfl, hd, e⟩
      rw [List.length_map, List.take_length, len, List.take_length] at hd
      refine ⟨_, rfl, t, rfl, ⟨as.map V.ref, e.st ht⟩, for_tup (K := K) (a := t) (xs := as.map V.ref) (fun i σ H' => ∃ v : Option V, σ = [some (.ref t), some (.ref d), v] ∧ H' d = some (.dK (tab as rs)) ∧ Same H H')
        ⟨_, rfl, hd, e⟩ (fun i σ H' _ ⟨_, _, _, e⟩ => e.st ht) ?_ ?_⟩
      · rintro i x σ H' hx ⟨v, rfl, hd, e⟩
        obtain ⟨a, ha, rfl⟩ := map_at hx
        obtain ⟨r, hr', ka⟩ := paired_get hk ha
        have ka2 := ka.same e
        obtain ⟨dx, ka'⟩ := id ka2
        refine ⟨_, rfl, a, dx, _, rfl, ka', a, r, rfl, ka2, ?_⟩
        dsimp only
        cases eb : r.back with
        | none => exact ⟨rfl, _, rfl, iteNS rfl (iteF ⟨_, rfl, hd, e⟩)⟩
        | some z =>
          refine ⟨rfl, _, rfl, ite2 (fun _ => ?_) (fun c => absurd (by rw [decide_eq_false (fun z => nomatch z)]; rfl) c)⟩
          obtain ⟨u, hu, en, eu, e1, e2⟩ := part.back r (List.mem_of_getElem? hr') z eb
          obtain ⟨b, gb, kb⟩ := tab_find hk nd u hu
          rw [en] at gb
          refine ⟨_, rfl, d, rfl, .inl ⟨_, .inl hd⟩, _, rfl, a, dx, _, rfl, ka', a, r, rfl, ka2, some (.ref b), .inl ⟨_, .inr z, .inl hd, by show ov r.back = _; rw [eb]; rfl, gb.symm⟩, _, rfl, b, a, u, r, rfl, kb.same e, ka2, eu, ⟨e1, e2⟩, true, rfl, iteF ⟨_, rfl, hd, e⟩⟩
      rintro σ H2 ⟨v, rfl, hd, e⟩
      refine ⟨_, rfl, t, rfl, ⟨as.map V.ref, e.st ht⟩, for_tup (K := K) (a := t) (xs := as.map V.ref) (fun i σ H' => ∃ v : Option V, σ = [some (.ref t), some (.ref d), v] ∧ H' d = some (.dK (tab as rs)) ∧ Same H H')
        ⟨_, rfl, hd, e⟩ (fun i σ H' _ ⟨_, _, _, e⟩ => e.st ht) ?_ ?_⟩
      · rintro i x σ H' hx ⟨v, rfl, hd, e⟩
        obtain ⟨a, ha, rfl⟩ := map_at hx
        obtain ⟨r, hr', ka⟩ := paired_get hk ha
        have ka2 := ka.same e
        obtain ⟨dx, ka'⟩ := id ka2
        refine ⟨_, rfl, a, dx, _, rfl, ka', a, r, rfl, ka2, ?_⟩
        dsimp only
        cases eb : r.mirror with
        | none => exact ⟨rfl, _, rfl, iteNS rfl (iteF ⟨_, rfl, hd, e⟩)⟩
        | some z =>
          refine ⟨rfl, _, rfl, ite2 (fun _ => ?_) (fun c => absurd (by rw [decide_eq_false (fun z => nomatch z)]; rfl) c)⟩
          obtain ⟨u, hu, en, eu, e1, e2⟩ := part.mirror r (List.mem_of_getElem? hr') z eb
          obtain ⟨b, gb, kb⟩ := tab_find hk nd u hu
          rw [en] at gb
          refine ⟨_, rfl, d, rfl, .inl ⟨_, .inl hd⟩, _, rfl, a, dx, _, rfl, ka', a, r, rfl, ka2, some (.ref b), .inl ⟨_, .inr z, .inl hd, by show ov r.mirror = _; rw [eb]; rfl, gb.symm⟩, _, rfl, b, a, u, r, rfl, kb.same e, ka2, eu, ⟨e1, e2⟩, true, rfl, iteF ⟨_, rfl, hd, e⟩⟩
      rintro σ H3 ⟨v, rfl, hd, e⟩
      refine ⟨_, rfl, t, rfl, ⟨as.map V.ref, e.st ht⟩, for_tup (K := K) (a := t) (xs := as.map V.ref) (fun i σ H' => ∃ v : Option V, σ = [some (.ref t), some (.ref d), v] ∧ H' d = some (.dK (tab as rs)) ∧ Same H H')
        ⟨_, rfl, hd, e⟩ (fun i σ H' _ ⟨_, _, _, e⟩ => e.st ht) ?_ (fun σ H' ⟨_, _, _, e⟩ => k H' e)⟩
      rintro i x σ H' hx ⟨v, rfl, hd, e⟩
      obtain ⟨a, ha, rfl⟩ := map_at hx
      obtain ⟨r, hr', ka⟩ := paired_get hk ha
      have ka2 := ka.same e
      obtain ⟨dx, ka'⟩ := id ka2
      refine ⟨_, rfl, a, dx, _, rfl, ka', a, r, rfl, ka2, ?_⟩
      dsimp only
      cases eb : r.back with
      | none => exact ⟨rfl, _, rfl, iteNS rfl (iteF ⟨_, rfl, hd, e⟩)⟩
      | some z =>
        refine ⟨rfl, _, rfl, ite2 (fun _ => ?_) (fun c => absurd (by rw [decide_eq_false (fun z => nomatch z)]; rfl) c)⟩
        refine ⟨_, rfl, a, dx, _, rfl, ka', a, r, rfl, ka2, ?_⟩
        dsimp only
        cases em : r.mirror with
        | none => exact ⟨rfl, _, rfl, iteNS rfl (iteF ⟨_, rfl, hd, e⟩)⟩
        | some y =>
          refine ⟨rfl, _, rfl, ite2 (fun _ => ?_) (fun c => absurd (by rw [decide_eq_false (fun z => nomatch z)]; rfl) c)⟩
          obtain ⟨u, hu, w, hw, en, ew, un, uw⟩ := part.agree r (List.mem_of_getElem? hr') z y eb em
          obtain ⟨b, gb, kb⟩ := tab_find hk nd u hu
          obtain ⟨c, gc, kc⟩ := tab_find hk nd w hw
          rw [en] at gb
          rw [ew] at gc
          cases eu : u.mirror with
          | none => exact absurd eu un
          | some x => exact ⟨_, rfl, _, rfl, d, a, b, c, _, r, u, w, z, y, x, rfl, hd, ka2, eb, em, gb, kb.same e, gc, kc.same e, eu, uw.symm.trans eu, true, rfl, iteF ⟨_, rfl, hd, e⟩⟩
end
end N

set_option maxHeartbeats 4000000
namespace L2
open PySem PySem.Spec PyProof.Rows
/-- a method of self and one more, that may be named in the call -/
structure HasMK (P : Program) (w : World) (K : PySem.W.Frag) (mg : Str → Option Value) (base : Heap) (C : Addr) (m : Str) (k : Nat) (a b : Str) (sp : Sp) : Prop where
  ex : ∃ (f : Addr) (fd : FuncData), Meth K C m f ∧ Binds K fd [a, b] [] ∧ (∀ u v : Value, bindArgs fd ⟨[u], [(b, v)]⟩ = pure [(a, u), (b, v)]) ∧ FnOk P w K mg base CX0 k f fd [a, b] sp
section
variable {P : Program} {w : World} {K : PySem.W.Frag} {mg : Str → Option Value} {base : Heap} {C : Addr}
theorem HasMK.m {m a b : Str} {k : Nat} {sp : Sp} (h : HasMK P w K mg base C m k a b sp) : HasM P w K mg base C m k [a, b] sp := by
  obtain ⟨f, fd, h1, h2, _, h4⟩ := h.ex
  exact ⟨f, fd, h1, h2, h4⟩
theorem hasMK_of {m qual : Str} {st : Stmt} {N : List Str} {a b : Str} {k : Nat} {sp : Sp} (F : MethAt K C m qual st) (S : FnScope N [a, b] (defScope st))
    (hb : ∀ (kV doc pm : Value) (an : Option Addr) (cdv ct : Value) (us : List Value), us.length = [a, b].length → bindArgs (PySem.W.fnOf m qual (defArgs st) (defBody st) (defScope st) .none kV doc pm an cdv ct) ⟨us, []⟩ = pure ([a, b].zip us))
    (len : ∀ vs H Q E, sp vs H Q E → vs.length = [a, b].length)
    (hbody : ∀ (f : Addr) (cdv : Value) (A : Around) (outer : List Env) (s : Shared) (H : Hp) (vs : List V) (Q : VK) (E : XK), Room k (A.deeper (envOfC qual (defScope st) s.heap.objs.size f cdv)) → sp vs H Q E →
      ∃ t, PSs (cxOf CX0 P w K mg base N qual (defScope st) f cdv A outer s H E).nox (defBody st) t ∧ t { nx := fun _ H' => Q .non H', rt := Q } (start N vs) H)
    (hk : ∀ (kV doc pm : Value) (an : Option Addr) (cdv ct : Value) (u v : Value), bindArgs (PySem.W.fnOf m qual (defArgs st) (defBody st) (defScope st) .none kV doc pm an cdv ct) ⟨[u], [(b, v)]⟩ = pure [(a, u), (b, v)] := by intros; rfl) : HasMK P w K mg base C m (k + 1) a b sp := by
  obtain ⟨f, fd, hm, F⟩ := F.ex
  obtain ⟨oc, od, kV, doc, pm, an, cdv, ct, osl, rfl, lk, hcd⟩ := id F.ex
  exact ⟨f, _, hm, F.binds hb, hk _ _ _ _ _ _, F.ok S len (hbody f)⟩
end
section
variable {X : Cx} {C : Addr} {m a b : Str} {k : Nat} {sp : Sp} {apos pos kpos : Pos} {o e : Expr} {ta te : TE} {pl : Sem Bool}
/-- o.m(b=e) -/
theorem pe_hasMK (h : HasMK X.prog X.w X.K X.mg X.base C m k a b sp) (c : Cls X.K C) (hr : Room k X.A) (ho : PE X o ta) (he : PE X e te)
    (ht : eval (.Call (.Attribute o m apos) [] [⟨some b, e, kpos⟩] pos) X.env = (do
      let ov ← eval o X.env
      standAt apos.atName
      let (f, first) ← holding [ov] (getMethod ov m pl)
      callWith pos f first (backTo pos (starEach [] X.env)) (backToKw pos (keywordEach [⟨some b, e, kpos⟩] X.env))) := by rfl) :
    PE X (.Call (.Attribute o m apos) [] [⟨some b, e, kpos⟩] pos) (tMeth C m sp [] E0 ta (tCons te tNil)) := by
  obtain ⟨f, fd, hm, hb, hk, F⟩ := h.ex
  refine ⟨fun pins s σ H Q I h => ?_⟩
  refine PySem.W.methodCall_KW (pl := pl) (thn (ho.run pins s σ H _ I h) fun u s1 ⟨x, H1, I1, rx, a', dx, fs, ex, ea, l, q⟩ => ?_) ht
  subst ex
  obtain rfl : u = Value.ref a' := rx
  refine getmeth_ok I1 ea c hm l ?_
  refine PySem.W.callWith_KW0 (first := [.ref a']) (h₀ := X.base) I.ok.mod.kin hm.kp rfl ?_ rfl
  refine thn ((pk_cons he pk_nil).run pos pins s1 σ H1 _ I1 q) fun ws s2 ⟨zs, H2, I2, rz, q2⟩ => ⟨I2.kIn, ?_⟩
  have hl := F.len _ _ _ _ q2
  have r2 : Vals (V.ref a' :: (zs ++ [])) (Value.ref a' :: ws) := by
    rw [List.append_nil]
    exact .cons rfl rz
  have lw : ws.length = 1 := by
    have := r2.length
    rw [hl] at this
    simpa using this.symm
  obtain ⟨w1, rfl⟩ : ∃ w1, ws = [w1] := match ws, lw with | [w1], _ => ⟨w1, rfl⟩
  show wpAny (model X.prog X.w) X.A (call (.ref f) [.ref a'] [(b, w1)]) _ _ s2
  have bt : BindsTo s2 fd ⟨[.ref a'], [(b, w1)]⟩ ([a, b].zip [.ref a', w1]) := BindsTo.of_looks fun M => .of_pure (hk _ _)
  refine wpAny_call (codeAny_mono (F.run X.A X.stack s2 H2 ⟨[.ref a'], [(b, w1)]⟩ [.ref a', w1] _ Q E0 hr I2.env0 bt r2 q2) fun r s' hq => ?_)
  cases r with
  | error er => exact (pass0 pins σ H2 s2 er s' I2 hq)
  | ok fl =>
    cases fl with
    | ret u => exact I2.after hq
    | next => exact False.elim hq
    | brk => exact False.elim hq
    | cont => exact False.elim hq
end
end L2

set_option maxHeartbeats 4000000
namespace L2
open PySem PySem.Spec PyProof.Rows
theorem call_isiF {X : Cx} (K : PySem.W.Frag) (hK : X.K = K := by rfl) : CallR X (.builtin "isinstance") (rIsi K) := by
  subst hK
  exact call_isi
end L2
namespace N
open PySem L2
/-! ### a book, asked -/
structure BookT (K : PySem.W.Frag) (mg : Str → Option Value) (CB : Addr) : Prop where
  own : OwnC K CB
  nk : NoAttr K CB "_kinds"
  nt : NoAttr K CB "_table"
  g : mg "Book" = some (.ref CB)
  names : ∃ t, mg "_MOST_NAMES" = some (.int 240 t)
theorem BookT.cl {K : PySem.W.Frag} {mg : Str → Option Value} {CB : Addr} (U : BookT K mg CB) : Cls K CB := U.own.cl
/-- a book of the kinds rs, told in the sequence qs (as they are sorted) -/
def BookAt (CB C : Addr) (H : Hp) (a : Addr) (rs qs : List Row) : Prop := ∃ (dx t d : Addr) (as bs : List Addr), H a = some (.ins CB dx [("_kinds", .ref t), ("_table", .ref d)]) ∧ H t = some (.tup (bs.map V.ref)) ∧ Paired (KindAt C H) bs qs ∧
  H d = some (.dK (tab as rs)) ∧ Paired (KindAt C H) as rs ∧ (rs.map (·.name)).Nodup
theorem BookAt.same {CB C : Addr} {H H' : Hp} {a : Addr} {rs qs : List Row} (h : BookAt CB C H a rs qs) (e : Same H H') : BookAt CB C H' a rs qs := by
  obtain ⟨dx, t, d, as, bs, h1, h2, h3, h4, h5, h6⟩ := h
  exact ⟨dx, t, d, as, bs, e _ _ h1, e _ _ h2, L2.Paired.mapP h3 fun _ _ k => k.same e, e _ _ h4, L2.Paired.mapP h5 fun _ _ k => k.same e, h6⟩
/-- a word: names of rows of the book -/
def WordOf (rs : List Row) (us : List Row) : Prop := us.length ≤ 240 ∧ ∀ u ∈ us, u ∈ rs
def wordV (us : List Row) : List V := us.map fun u => .str u.name
def spIsWord (K : PySem.W.Frag) (CB C : Addr) : Sp := fun vs H Q _ => ∃ (a l : Addr) (rs qs us : List Row), vs = [.ref a, .ref l] ∧ BookAt CB C H a rs qs ∧ H l = some (.tup (wordV us)) ∧ WordOf rs us ∧ ∀ H', Same H H' → Q (.bl true) H'
section
variable {P : Program} {w : World} {K : PySem.W.Frag} {mg : Str → Option Value} {base : Heap} {C CB : Addr} {Cs : Nat → Addr}
abbrev s_Book_is_word : Stmt := inClass (top 27) 4
theorem sc_Book_is_word : FnScope ["self", "value", "table", "name"] ["self", "value"] (defScope s_Book_is_word) := ⟨rfl, rfl, rfl, by decide +kernel, rfl, by decide +kernel, by decide +kernel⟩
theorem m_is_word (B : Blts mg) (U : BookT K mg CB) (F : MethAt K CB "is_word" "Book.is_word" s_Book_is_word) : HasMK P w K mg base CB "is_word" 1 "self" "value" (spIsWord K CB C) := by
  obtain ⟨_, g_MOST_NAMES⟩ := U.names
  refine hasMK_of F sc_Book_is_word (fun _ _ _ _ _ _ us hl => match us, hl with | [_, _], _ => rfl) (fun vs H Q E h => ?_) (fun f cdv A outer s H vs Q E hr h => ?_)
  · obtain ⟨_, _, _, _, _, rfl, _⟩ := h
    rfl
  · obtain ⟨a, l, rs, qs, us, rfl, hb, hl, ⟨h240, hw⟩, k⟩ := h
    obtain ⟨dx, t, d, as, bs, ha, ht, hbs, hd, has, nd⟩ := id hb
    refine ⟨_, (pss_cons (ps_if (PW.pt (pw_or (pt_not (pt_val (pe_callB call_isi (by rfl) B.n_isinstance (by decide +kernel) (pa_cons (pv 1) (pa_cons (pe_bltn (v := .ty "tuple") (u := .type "tuple") rfl B.n_tuple (by decide +kernel) rfl) pa_nil))))) (pw_or1 (pt_cmpR op_gt (pe_callB call_len (by rfl) B.n_len PySem.boot_len (pa_cons (pv 1) pa_nil)) (pe_glob (v := .int 240) rfl g_MOST_NAMES ⟨_, rfl⟩) (by first | exact nomark _ | rfl))))) (pss_one (ps_ret pe_bl))
        pss_nil)
      (pss_cons (ps_set (i := 2) sc_Book_is_word.nd rfl (Or.inr rfl) (pe_fld (pv 0) rfl))
      (pss_one (ps_ret (pe_callB (cr_all rfl) (by rfl) B.n_all (by decide +kernel) (pa_cons (pe_lc (own := [("name", 3)]) rfl sc_Book_is_word.nd (pi_tup (pv 1)) (blkOk_by (own := [("name", 3)]) (N := ["self", "value", "table", "name"]) (sc := defScope s_Book_is_word) (by decide +kernel)) (fun _ _ _ _ _ => by exact (pg_name (i := 3) sc_Book_is_word.nd rfl (Or.inl rfl))) (fun _ _ _ _ _ => by exact pts_nil) (fun _ _ _ _ _ => by exact (pe_and (pe_callB (call_isiF K) (by rfl) B.n_isinstance (by decide +kernel) (pa_cons (pv 3) (pa_cons (pe_bltn (v := .ty "str") (u := .type "str") rfl B.n_str (by decide +kernel) rfl) pa_nil))) (pe_one (pe_cmp (pc_din hr.u1 (pv 3) (pv 2))))))) pa_nil)))))), ?_⟩
    have tt : kitB "tuple" "tuple" = some true := by decide +kernel
    have ts : kitB "str" "str" = some true := by decide +kernel
    have wl : (wordV us).length = us.length := List.length_map _
    refine ⟨_, rfl, _, _, _, _, _, rfl, .ty _, .base (.tup hl), kit_b tt, _, rfl, iteF ?_⟩
    refine ⟨_, rfl, _, us.length, rfl, .inr ⟨_, SqT.of hl, wl.symm⟩, _, _, rfl, rfl, _, rfl, ite2 (fun c => absurd (of_decide_eq_true c) (by omega)) (fun _ => ?_)⟩
    refine next_of ?_
    dsimp only
    refine ⟨_, rfl, a, CB, dx, _, _, rfl, ha, U.cl, U.nt, rfl, ?_⟩
    refine next_of ?_
    dsimp only
    refine ⟨_, rfl, l, rfl, ⟨_, SqT.of hl⟩, fun D nD => lc_map walk_tup (fun _ => .bl true) nD (by omega) (fun H' s' => SqT.of (s' _ _ hl)) ?_ ?_⟩
    · rintro i x H1 H2 hi s1 ⟨rfl, hx⟩ R hR
      rw [wordV, List.getElem?_map] at hx
      cases hu : us[i]? with
      | none => rw [hu] at hx; cases hx
      | some u =>
        rw [hu] at hx
        cases (Option.some.inj hx : V.str u.name = x)
        obtain ⟨b, gb, _⟩ := tab_find has nd u (hw u (List.mem_of_getElem? hu))
        refine ⟨rfl, _, rfl, _, _, _, _, _, rfl, .ty _, .base (.str _), kit_b ts, _, rfl, iteT ?_⟩
        exact ⟨_, rfl, _, rfl, d, some (.ref b), rfl, .inl ⟨_, .inr u.name, .inl (s1 _ _ hd), rfl, gb.symm⟩, hR _ (Same.refl _)⟩
    · intro H1 s1 hD
      refine ⟨D, (List.range (wordV us).length).map fun _ => true, rfl, SqL.of (by rw [List.map_map]; exact hD), ?_⟩
      rw [show ((List.range (wordV us).length).map fun _ => true).all id = true by simp]
      exact k _ s1
end
end N

set_option maxHeartbeats 4000000
namespace N
open PySem L2
/-- where the table has the kind of a row -/
def kAt (t : List (Key × V)) (u : Row) : Addr := match valV t (.inr u.name) with
  | some (.ref b) => b
  | _ => 0
theorem kAt_is {C : Addr} {H : Hp} {as : List Addr} {rs : List Row} {u : Row} (h : Paired (KindAt C H) as rs) (nd : (rs.map (·.name)).Nodup) (hu : u ∈ rs) : valV (tab as rs) (.inr u.name) = some (.ref (kAt (tab as rs) u)) ∧ KindAt C H (kAt (tab as rs) u) u := by
  obtain ⟨b, g, k⟩ := tab_find h nd u hu
  have e : kAt (tab as rs) u = b := by unfold kAt; rw [g]
  rw [e]
  exact ⟨g, k⟩
def at_ (us : List Row) (t : List (Key × V)) (i : Nat) : V := match us[i]? with
  | some u => .ref (kAt t u)
  | none => .non
theorem at_all (us : List Row) (t : List (Key × V)) : (List.range us.length).map (at_ us t) = (us.map (kAt t)).map V.ref := by
  refine List.ext_getElem (by simp) fun i h1 h2 => ?_
  have hi : i < us.length := by simpa using h1
  simp [at_, List.getElem?_eq_getElem hi]
theorem paired_map {α β : Type} {F : α → β → Prop} {f : β → α} : ∀ {l : List β}, (∀ u ∈ l, F (f u) u) → Paired F (l.map f) l
  | [], _ => .nil
  | _ :: _, h => .cons (h _ (.head _)) (paired_map fun u hu => h u (.tail _ hu))
def spKindsOf (CB C : Addr) : Sp := fun vs H Q _ => ∃ (a l : Addr) (rs qs us : List Row), vs = [.ref a, .ref l] ∧ BookAt CB C H a rs qs ∧ H l = some (.tup (wordV us)) ∧ WordOf rs us ∧ ∀ q ps H', H q = none → H' q = some (.lst (ps.map V.ref)) → Paired (KindAt C H') ps us → Same H H' → Q (.ref q) H'
def sumOf (g : Row → Int) (us : List Row) : Int := (us.map g).sum
def spSum (CB C : Addr) (g : Row → Int) : Sp := fun vs H Q _ => ∃ (a l : Addr) (rs qs us : List Row), vs = [.ref a, .ref l] ∧ BookAt CB C H a rs qs ∧ H l = some (.tup (wordV us)) ∧ WordOf rs us ∧ ∀ H', Same H H' → Q (.int (sumOf g us)) H'
def gAt (us : List Row) (g : Row → V) (i : Nat) : V := match us[i]? with
  | some u => g u
  | none => .non
theorem gAt_all (us : List Row) (g : Row → V) : (List.range us.length).map (gAt us g) = us.map g := by
  refine List.ext_getElem (by simp) fun i h1 h2 => ?_
  have hi : i < us.length := by simpa using h1
  simp [gAt, List.getElem?_eq_getElem hi]
section
variable {P : Program} {w : World} {K : PySem.W.Frag} {mg : Str → Option Value} {base : Heap} {C CB : Addr} {Cs : Nat → Addr}
abbrev s_Book__kinds_of : Stmt := inClass (top 27) 11
theorem sc_BookDkinds_of : FnScope ["self", "word", "name"] ["self", "word"] (defScope s_Book__kinds_of) := ⟨rfl, rfl, rfl, by decide +kernel, rfl, by decide +kernel, by decide +kernel⟩
theorem m_kinds_of (U : BookT K mg CB) (F : MethAt K CB "_kinds_of" "Book._kinds_of" s_Book__kinds_of) (m_is_word : HasM P w K mg base CB "is_word" 1 ["self", "value"] (spIsWord K CB C)) : HasM P w K mg base CB "_kinds_of" 2 ["self", "word"] (spKindsOf CB C) := by
  refine hasM_of F sc_BookDkinds_of (fun _ _ _ _ _ _ us hl => match us, hl with | [_, _], _ => rfl) (fun vs H Q E h => ?_) (fun f cdv A outer s H vs Q E hr h => ?_)
  · obtain ⟨_, _, _, _, _, rfl, _⟩ := h
    rfl
  · obtain ⟨a, l, rs, qs, us, rfl, hb, hl, hw, k⟩ := h
    obtain ⟨dx, t, d, as, bs, ha, ht, hbs, hd, has, nd⟩ := id hb
    refine ⟨_, (pss_cons (ps_if (pt_not (pt_val (pe_hasM m_is_word U.cl (hr.mono (by decide)) (pv 0) (pa_cons (pv 1) pa_nil)))) (pss_one ps_never)
        pss_nil)
      (pss_one (ps_ret (pe_lc (own := [("name", 2)]) rfl sc_BookDkinds_of.nd (pi_tup (pv 1)) (blkOk_by (own := [("name", 2)]) (N := ["self", "word", "name"]) (sc := defScope s_Book__kinds_of) (by decide +kernel)) (fun _ _ _ _ _ => by exact (pg_name (i := 2) sc_BookDkinds_of.nd rfl (Or.inl rfl))) (fun _ _ _ _ _ => by exact pts_nil) (fun _ _ _ _ _ => by exact (pe_dget hr.u1 (pe_fldK K (pv 0) rfl) (pv 2) (fun _ _ => rfl))))))), ?_⟩
    refine ⟨_, rfl, a, dx, _, rfl, ha, rfl, _, rfl, a, l, rs, qs, us, rfl, hb, hl, hw, fun H1 s1 => ⟨_, rfl, iteF ?_⟩⟩
    refine next_of ?_
    dsimp only
    have hl1 := s1 _ _ hl
    have wl : (wordV us).length = us.length := List.length_map _
    have h240 := hw.1
    refine ⟨_, rfl, l, rfl, ⟨_, SqT.of hl1⟩, fun D nD => lc_map walk_tup (at_ us (tab as rs)) nD (by omega) (fun H' s' => SqT.of (s' _ _ hl1)) ?_ ?_⟩
    · rintro i x H2 H3 hi s2 ⟨rfl, hx⟩ R hR
      rw [wordV, List.getElem?_map] at hx
      cases hu : us[i]? with
      | none => rw [hu] at hx; cases hx
      | some u =>
        rw [hu] at hx
        cases (Option.some.inj hx : V.str u.name = x)
        have gb := (kAt_is has nd (hw.2 u (List.mem_of_getElem? hu))).1
        have q := hR H3 (Same.refl _)
        rw [at_, hu] at q
        exact ⟨rfl, _, rfl, a, CB, dx, _, _, rfl, s2 _ _ (s1 _ _ ha), U.cl, U.nt, rfl, _, rfl, d, _, rfl, .inl ⟨_, .inr u.name, .inl (s2 _ _ (s1 _ _ hd)), rfl, gb.symm⟩, q⟩
    · intro H2 s2 hD
      rw [wl, at_all] at hD
      have nD0 : H D = none := by
        cases e : H D with
        | none => rfl
        | some o => rw [s1 _ _ e] at nD; cases nD
      exact k D _ H2 nD0 hD (paired_map fun u hu => ((kAt_is has nd (hw.2 u hu)).2.same s1).same s2) (s1.trans s2)
abbrev s_Book_taken : Stmt := inClass (top 27) 5
theorem sc_Book_taken : FnScope ["self", "word", "kind"] ["self", "word"] (defScope s_Book_taken) := ⟨rfl, rfl, rfl, by decide +kernel, rfl, by decide +kernel, by decide +kernel⟩
theorem m_taken (B : Blts mg) (U : BookT K mg CB) (T : KindT K mg C Cs) (F : MethAt K CB "taken" "Book.taken" s_Book_taken) (p2 : PK' P w K mg base C "takes" fun r => .int r.takes) (m_kinds_of : HasM P w K mg base CB "_kinds_of" 2 ["self", "word"] (spKindsOf CB C)) : HasMK P w K mg base CB "taken" 3 "self" "word" (spSum CB C Row.takes) := by
  refine hasMK_of F sc_Book_taken (fun _ _ _ _ _ _ us hl => match us, hl with | [_, _], _ => rfl) (fun vs H Q E h => ?_) (fun f cdv A outer s H vs Q E hr h => ?_)
  · obtain ⟨_, _, _, _, _, rfl, _⟩ := h
    rfl
  · obtain ⟨a, l, rs, qs, us, rfl, hb, hl, hw, k⟩ := h
    obtain ⟨dx, _, _, _, _, ha, _⟩ := id hb
    refine ⟨_, (pss_one (ps_ret (pe_callB (cr_sum rfl) (by rfl) B.n_sum (by decide +kernel) (pa_cons (pe_lc (own := [("kind", 2)]) rfl sc_Book_taken.nd (pi_list (pe_hasM m_kinds_of U.cl (hr.mono (by decide)) (pv 0) (pa_cons (pv 1) pa_nil))) (blkOk_by (own := [("kind", 2)]) (N := ["self", "word", "kind"]) (sc := defScope s_Book_taken) (by decide +kernel)) (fun _ _ _ _ _ => by exact (pg_name (i := 2) sc_Book_taken.nd rfl (Or.inl rfl))) (fun _ _ _ _ _ => by exact pts_nil) (fun _ _ _ _ _ => by exact (pe_hasP p2 T.cl (hr.mono (by decide)) (pv 2)))) pa_nil)))), ?_⟩
    refine ⟨_, rfl, a, dx, _, rfl, ha, rfl, _, rfl, a, l, rs, qs, us, rfl, hb, hl, hw, fun q ps H1 nq hq hp s1 => ?_⟩
    have len := paired_len hp
    have h240 := hw.1
    refine ⟨q, rfl, ⟨_, SqL.of hq⟩, fun D nD => lc_map walk_list (gAt us fun r => .int r.takes) nD (by rw [List.length_map]; omega) (fun H' s' => SqL.of (s' _ _ hq)) ?_ ?_⟩
    · rintro i x H2 H3 hi s2 ⟨rfl, hx⟩ R hR
      obtain ⟨b, hbx, rfl⟩ := map_at hx
      obtain ⟨u, hu, kb⟩ := paired_get hp hbx
      obtain ⟨db, hb'⟩ := kb.same s2
      have qq := hR H3 (Same.refl _)
      rw [gAt, hu] at qq
      exact ⟨rfl, _, rfl, b, db, _, rfl, hb', b, u, rfl, kb.same s2, qq⟩
    · intro H2 s2 hD
      rw [List.length_map, len, gAt_all] at hD
      exact ⟨D, us.map Row.takes, rfl, SqL.of (by rw [List.map_map]; exact hD), k H2 (s1.trans s2)⟩
abbrev s_Book_loops_made : Stmt := inClass (top 27) 7
theorem sc_Book_loops_made : FnScope ["self", "word", "kind"] ["self", "word"] (defScope s_Book_loops_made) := ⟨rfl, rfl, rfl, by decide +kernel, rfl, by decide +kernel, by decide +kernel⟩
theorem m_loops_made (B : Blts mg) (U : BookT K mg CB) (T : KindT K mg C Cs) (F : MethAt K CB "loops_made" "Book.loops_made" s_Book_loops_made) (p3 : PK' P w K mg base C "makes" fun r => .int r.makes) (m_kinds_of : HasM P w K mg base CB "_kinds_of" 2 ["self", "word"] (spKindsOf CB C)) : HasM P w K mg base CB "loops_made" 3 ["self", "word"] (spSum CB C Row.makes) := by
  refine hasM_of F sc_Book_loops_made (fun _ _ _ _ _ _ us hl => match us, hl with | [_, _], _ => rfl) (fun vs H Q E h => ?_) (fun f cdv A outer s H vs Q E hr h => ?_)
  · obtain ⟨_, _, _, _, _, rfl, _⟩ := h
    rfl
  · obtain ⟨a, l, rs, qs, us, rfl, hb, hl, hw, k⟩ := h
    obtain ⟨dx, _, _, _, _, ha, _⟩ := id hb
    refine ⟨_, (pss_one (ps_ret (pe_callB (cr_sum rfl) (by rfl) B.n_sum (by decide +kernel) (pa_cons (pe_lc (own := [("kind", 2)]) rfl sc_Book_loops_made.nd (pi_list (pe_hasM m_kinds_of U.cl (hr.mono (by decide)) (pv 0) (pa_cons (pv 1) pa_nil))) (blkOk_by (own := [("kind", 2)]) (N := ["self", "word", "kind"]) (sc := defScope s_Book_loops_made) (by decide +kernel)) (fun _ _ _ _ _ => by exact (pg_name (i := 2) sc_Book_loops_made.nd rfl (Or.inl rfl))) (fun _ _ _ _ _ => by exact pts_nil) (fun _ _ _ _ _ => by exact (pe_hasP p3 T.cl (hr.mono (by decide)) (pv 2)))) pa_nil)))), ?_⟩
    refine ⟨_, rfl, a, dx, _, rfl, ha, rfl, _, rfl, a, l, rs, qs, us, rfl, hb, hl, hw, fun q ps H1 nq hq hp s1 => ?_⟩
    have len := paired_len hp
    have h240 := hw.1
    refine ⟨q, rfl, ⟨_, SqL.of hq⟩, fun D nD => lc_map walk_list (gAt us fun r => .int r.makes) nD (by rw [List.length_map]; omega) (fun H' s' => SqL.of (s' _ _ hq)) ?_ ?_⟩
    · rintro i x H2 H3 hi s2 ⟨rfl, hx⟩ R hR
      obtain ⟨b, hbx, rfl⟩ := map_at hx
      obtain ⟨u, hu, kb⟩ := paired_get hp hbx
      obtain ⟨db, hb'⟩ := kb.same s2
      have qq := hR H3 (Same.refl _)
      rw [gAt, hu] at qq
      exact ⟨rfl, _, rfl, b, db, _, rfl, hb', b, u, rfl, kb.same s2, qq⟩
    · intro H2 s2 hD
      rw [List.length_map, len, gAt_all] at hD
      exact ⟨D, us.map Row.makes, rfl, SqL.of (by rw [List.map_map]; exact hD), k H2 (s1.trans s2)⟩
abbrev s_Book_made : Stmt := inClass (top 27) 6
theorem sc_Book_made : FnScope ["self", "word"] ["self", "word"] (defScope s_Book_made) := ⟨rfl, rfl, rfl, by decide +kernel, rfl, by decide +kernel, by decide +kernel⟩
theorem m_made (U : BookT K mg CB) (F : MethAt K CB "made" "Book.made" s_Book_made) (m_loops_made : HasM P w K mg base CB "loops_made" 3 ["self", "word"] (spSum CB C Row.makes)) : HasMK P w K mg base CB "made" 4 "self" "word" (spSum CB C Row.makes) := by
  refine hasMK_of F sc_Book_made (fun _ _ _ _ _ _ us hl => match us, hl with | [_, _], _ => rfl) (fun vs H Q E h => ?_) (fun f cdv A outer s H vs Q E hr h => ?_)
  · obtain ⟨_, _, _, _, _, rfl, _⟩ := h
    rfl
  · obtain ⟨a, l, rs, qs, us, rfl, hb, hl, hw, k⟩ := h
    obtain ⟨dx, _, _, _, _, ha, _⟩ := id hb
    refine ⟨_, (pss_one (ps_ret (pe_hasM m_loops_made U.cl (hr.mono (by decide)) (pv 0) (pa_cons (pv 1) pa_nil)))), ?_⟩
    exact ⟨_, rfl, a, dx, _, rfl, ha, rfl, _, rfl, a, l, rs, qs, us, rfl, hb, hl, hw, k⟩
abbrev s_Book_yarn_of : Stmt := inClass (top 27) 8
theorem sc_Book_yarn_of : FnScope ["self", "word", "kind"] ["self", "word"] (defScope s_Book_yarn_of) := ⟨rfl, rfl, rfl, by decide +kernel, rfl, by decide +kernel, by decide +kernel⟩
theorem m_yarn_of (B : Blts mg) (U : BookT K mg CB) (T : KindT K mg C Cs) (F : MethAt K CB "yarn_of" "Book.yarn_of" s_Book_yarn_of) (p6 : PK' P w K mg base C "yarn" fun r => .int r.yarn) (m_kinds_of : HasM P w K mg base CB "_kinds_of" 2 ["self", "word"] (spKindsOf CB C)) : HasMK P w K mg base CB "yarn_of" 3 "self" "word" (spSum CB C Row.yarn) := by
  refine hasMK_of F sc_Book_yarn_of (fun _ _ _ _ _ _ us hl => match us, hl with | [_, _], _ => rfl) (fun vs H Q E h => ?_) (fun f cdv A outer s H vs Q E hr h => ?_)
  · obtain ⟨_, _, _, _, _, rfl, _⟩ := h
    rfl
  · obtain ⟨a, l, rs, qs, us, rfl, hb, hl, hw, k⟩ := h
    obtain ⟨dx, _, _, _, _, ha, _⟩ := id hb
    refine ⟨_, (pss_one (ps_ret (pe_callB (cr_sum rfl) (by rfl) B.n_sum (by decide +kernel) (pa_cons (pe_lc (own := [("kind", 2)]) rfl sc_Book_yarn_of.nd (pi_list (pe_hasM m_kinds_of U.cl (hr.mono (by decide)) (pv 0) (pa_cons (pv 1) pa_nil))) (blkOk_by (own := [("kind", 2)]) (N := ["self", "word", "kind"]) (sc := defScope s_Book_yarn_of) (by decide +kernel)) (fun _ _ _ _ _ => by exact (pg_name (i := 2) sc_Book_yarn_of.nd rfl (Or.inl rfl))) (fun _ _ _ _ _ => by exact pts_nil) (fun _ _ _ _ _ => by exact (pe_hasP p6 T.cl (hr.mono (by decide)) (pv 2)))) pa_nil)))), ?_⟩
    refine ⟨_, rfl, a, dx, _, rfl, ha, rfl, _, rfl, a, l, rs, qs, us, rfl, hb, hl, hw, fun q ps H1 nq hq hp s1 => ?_⟩
    have len := paired_len hp
    have h240 := hw.1
    refine ⟨q, rfl, ⟨_, SqL.of hq⟩, fun D nD => lc_map walk_list (gAt us fun r => .int r.yarn) nD (by rw [List.length_map]; omega) (fun H' s' => SqL.of (s' _ _ hq)) ?_ ?_⟩
    · rintro i x H2 H3 hi s2 ⟨rfl, hx⟩ R hR
      obtain ⟨b, hbx, rfl⟩ := map_at hx
      obtain ⟨u, hu, kb⟩ := paired_get hp hbx
      obtain ⟨db, hb'⟩ := kb.same s2
      have qq := hR H3 (Same.refl _)
      rw [gAt, hu] at qq
      exact ⟨rfl, _, rfl, b, db, _, rfl, hb', b, u, rfl, kb.same s2, qq⟩
    · intro H2 s2 hD
      rw [List.length_map, len, gAt_all] at hD
      exact ⟨D, us.map Row.yarn, rfl, SqL.of (by rw [List.map_map]; exact hD), k H2 (s1.trans s2)⟩
end
end N

set_option maxHeartbeats 4000000
namespace N
open PySem L2
/-- is a value the name of a kind of the book -/
def inBook (rs : List Row) : V → Bool
  | .str s => decide (s ∈ rs.map (·.name))
  | _ => false
theorem tab_none {as : List Addr} {rs : List Row} {s : Str} (h : s ∉ rs.map (·.name)) : valV (tab as rs) (.inr s) = none := by
  refine valV_no fun q hq e => h ?_
  have mem : ∀ {as : List Addr} {ss : List Row} {q : Key × V}, q ∈ tab as ss → ∃ z ∈ ss, q.1 = .inr z.name := fun {as ss q} h => by
    induction as generalizing ss with
    | nil => simp [tab] at h
    | cons a as ih =>
      cases ss with
      | nil => simp [tab] at h
      | cons z ss =>
        rcases List.mem_cons.mp h with e | h
        · exact ⟨z, .head _, by rw [e]⟩
        · obtain ⟨y, hy, e⟩ := ih h
          exact ⟨y, .tail _ hy, e⟩
  obtain ⟨z, hz, ez⟩ := mem hq
  have en : z.name = s := Sum.inr.inj (ez.symm.trans e)
  exact en ▸ List.mem_map_of_mem hz
def spIn (CB C : Addr) : Sp := fun vs H Q _ => ∃ (a : Addr) (v : V) (rs qs : List Row), vs = [.ref a, v] ∧ BookAt CB C H a rs qs ∧ Odd H v ∧ Q (.bl (inBook rs v)) H
def spNames (CB C : Addr) : Sp := fun vs H Q _ => ∃ (a : Addr) (rs qs : List Row), vs = [.ref a] ∧ BookAt CB C H a rs qs ∧ qs.length ≤ 1000 ∧ ∀ q H', H q = none → H' q = some (.lst (qs.map fun r => .str r.name)) → Same H H' → Q (.ref q) H'
section
variable {P : Program} {w : World} {K : PySem.W.Frag} {mg : Str → Option Value} {base : Heap} {C CB : Addr} {Cs : Nat → Addr}
abbrev s_Book___contains__ : Stmt := inClass (top 27) 13
theorem sc_BookD_containsD : FnScope ["self", "x"] ["self", "x"] (defScope s_Book___contains__) := ⟨rfl, rfl, rfl, by decide +kernel, rfl, by decide +kernel, by decide +kernel⟩
theorem m_contains (B : Blts mg) (U : BookT K mg CB) (F : MethAt K CB "__contains__" "Book.__contains__" s_Book___contains__) : HasM P w K mg base CB "__contains__" 1 ["self", "x"] (spIn CB C) := by
  refine hasM_of F sc_BookD_containsD (fun _ _ _ _ _ _ us hl => match us, hl with | [_, _], _ => rfl) (fun vs H Q E h => ?_) (fun f cdv A outer s H vs Q E hr h => ?_)
  · obtain ⟨_, _, _, _, rfl, _⟩ := h
    rfl
  · obtain ⟨a, v, rs, qs, rfl, hb, hv, k⟩ := h
    obtain ⟨dx, t, d, as, bs, ha, ht, hbs, hd, has, nd⟩ := id hb
    obtain ⟨Tn, ty, ks, _, _⟩ := hv.ty (K := K)
    refine ⟨_, (pss_one (ps_ret (pe_and (pe_callB call_isi (by rfl) B.n_isinstance (by decide +kernel) (pa_cons (pv 1) (pa_cons (pe_bltn (v := .ty "str") (u := .type "str") rfl B.n_str (by decide +kernel) rfl) pa_nil))) (pe_one (pe_cmp (pc_din hr.u1 (pv 1) (pe_fld (pv 0) rfl))))))), ?_⟩
    refine ⟨_, rfl, _, _, _, _, _, rfl, .ty _, ty, kit_b ks, _, rfl, ?_⟩
    cases v with
    | str z =>
      refine iteT ?_
      by_cases hz : z ∈ rs.map (·.name)
      · obtain ⟨u, hu, rfl⟩ := List.mem_map.mp hz
        have gb := (kAt_is has nd hu).1
        have k' : Q (.bl true) H := by
          have e : inBook rs (.str u.name) = true := decide_eq_true hz
          rw [e] at k
          exact k
        exact ⟨_, rfl, _, rfl, a, CB, dx, _, _, rfl, ha, U.cl, U.nt, rfl, d, some (.ref _), rfl, .inl ⟨_, .inr u.name, .inl hd, rfl, gb.symm⟩, k'⟩
      · have k' : Q (.bl false) H := by
          have e : inBook rs (.str z) = false := decide_eq_false hz
          rw [e] at k
          exact k
        exact ⟨_, rfl, _, rfl, a, CB, dx, _, _, rfl, ha, U.cl, U.nt, rfl, d, none, rfl, .inl ⟨_, .inr z, .inl hd, rfl, (tab_none hz).symm⟩, k'⟩
    | _ => exact iteF k
abbrev s_Book_names : Stmt := inClass (top 27) 3
theorem sc_Book_names : FnScope ["self", "kind"] ["self"] (defScope s_Book_names) := ⟨rfl, rfl, rfl, by decide +kernel, rfl, by decide +kernel, by decide +kernel⟩
theorem m_names (U : BookT K mg CB) (T : KindT K mg C Cs) (F : MethAt K CB "names" "Book.names" s_Book_names) (p1 : PK' P w K mg base C "name" fun r => .str r.name) : HasM P w K mg base CB "names" 3 ["self"] (spNames CB C) := by
  refine hasM_of F sc_Book_names (fun _ _ _ _ _ _ us hl => match us, hl with | [_], _ => rfl) (fun vs H Q E h => ?_) (fun f cdv A outer s H vs Q E hr h => ?_)
  · obtain ⟨_, _, _, rfl, _⟩ := h
    rfl
  · obtain ⟨a, rs, qs, rfl, hb, hq, k⟩ := h
    obtain ⟨dx, t, d, as, bs, ha, ht, hbs, hd, has, nd⟩ := id hb
    refine ⟨_, (pss_one (ps_ret (pe_lc (own := [("kind", 1)]) rfl sc_Book_names.nd (pi_tup (pe_fld (pv 0) rfl)) (blkOk_by (own := [("kind", 1)]) (N := ["self", "kind"]) (sc := defScope s_Book_names) (by decide +kernel)) (fun _ _ _ _ _ => by exact (pg_name (i := 1) sc_Book_names.nd rfl (Or.inl rfl))) (fun _ _ _ _ _ => by exact pts_nil) (fun _ _ _ _ _ => by exact (pe_hasP p1 T.cl (hr.mono (by decide)) (pv 1)))))), ?_⟩
    have len := paired_len hbs
    refine ⟨_, rfl, a, CB, dx, _, _, rfl, ha, U.cl, U.nk, rfl, t, rfl, ⟨_, SqT.of ht⟩, fun D nD => lc_map walk_tup (gAt qs fun r => .str r.name) nD (by rw [List.length_map]; omega) (fun H' s' => SqT.of (s' _ _ ht)) ?_ ?_⟩
    · rintro i x H2 H3 hi s2 ⟨rfl, hx⟩ R hR
      obtain ⟨b, hbx, rfl⟩ := map_at hx
      obtain ⟨u, hu, kb⟩ := paired_get hbs hbx
      obtain ⟨db, hb'⟩ := kb.same s2
      have qq := hR H3 (Same.refl _)
      rw [gAt, hu] at qq
      exact ⟨rfl, _, rfl, b, db, _, rfl, hb', b, u, rfl, kb.same s2, qq⟩
    · intro H2 s2 hD
      rw [List.length_map, len, gAt_all] at hD
      exact k D H2 nD hD s2
end
end N

set_option maxHeartbeats 4000000
namespace N
open PySem L2
/-- read backward, with the back or the mirror of each -/
def spBackward (CB C : Addr) (g : Row → Option Str) : Sp := fun vs H Q _ => ∃ (a l : Addr) (rs qs us : List Row), vs = [.ref a, .ref l] ∧ BookAt CB C H a rs qs ∧ H l = some (.tup (wordV us)) ∧ WordOf rs us ∧ (∀ u ∈ us, g u ≠ none) ∧
  ∀ q H', H q = none → H' q = some (.tup (us.reverse.map fun u => ov (g u))) → Same H H' → Q (.ref q) H'
theorem isN_some {o : Option Str} (h : o ≠ none) : decide (ov o = V.non) = false := by
  cases o with
  | none => exact absurd rfl h
  | some s => exact decide_eq_false fun z => by cases z
theorem paired_rev {α β : Type} {F : α → β → Prop} : ∀ {l : List α} {m : List β}, Paired F l m → Paired F l.reverse m.reverse
  | _, _, .nil => .nil
  | _, _, .cons a x => by
    rw [List.reverse_cons, List.reverse_cons]
    exact paired_app (paired_rev x) (.cons a .nil)
section
variable {P : Program} {w : World} {K : PySem.W.Frag} {mg : Str → Option Value} {base : Heap} {C CB : Addr} {Cs : Nat → Addr}
abbrev s_Book_turned : Stmt := inClass (top 27) 9
theorem sc_Book_turned : FnScope ["self", "word", "kinds", "kind"] ["self", "word"] (defScope s_Book_turned) := ⟨rfl, rfl, rfl, by decide +kernel, rfl, by decide +kernel, by decide +kernel⟩
theorem m_turned (B : Blts mg) (U : BookT K mg CB) (T : KindT K mg C Cs) (F : MethAt K CB "turned" "Book.turned" s_Book_turned) (p4 : PK' P w K mg base C "back" fun r => ov r.back) (m_kinds_of : HasM P w K mg base CB "_kinds_of" 2 ["self", "word"] (spKindsOf CB C)) : HasMK P w K mg base CB "turned" 3 "self" "word" (spBackward CB C Row.back) := by
  refine hasMK_of F sc_Book_turned (fun _ _ _ _ _ _ us hl => match us, hl with | [_, _], _ => rfl) (fun vs H Q E h => ?_) (fun f cdv A outer s H vs Q E hr h => ?_)
  · obtain ⟨_, _, _, _, _, rfl, _⟩ := h
    rfl
  · obtain ⟨a, l, rs, qs, us, rfl, hb, hl, hw, hg, k⟩ := h
    obtain ⟨dx, _, _, _, _, ha, _⟩ := id hb
    refine ⟨_, (pss_cons (ps_set (i := 2) sc_Book_turned.nd rfl (Or.inl rfl) (pe_hasM m_kinds_of U.cl (hr.mono (by decide)) (pv 0) (pa_cons (pv 1) pa_nil)))
      (pss_cons (ps_for PassesOwn.never rfl (pi_list (pv 2)) (pg_name (i := 3) sc_Book_turned.nd rfl (Or.inl rfl))
        (pss_one (ps_if (pt_cmpR op_isN (pe_hasP p4 T.cl (hr.mono (by decide)) (pv 3)) pe_non (by first | exact nomark _ | rfl)) (pss_one ps_never)
          pss_nil)))
      (pss_one (ps_ret (pe_callTy call_tuple_of (by rfl) B.n_tuple (by decide +kernel) (pa_cons (pe_lc (own := [("kind", 3)]) rfl sc_Book_turned.nd (pi_list (pe_revL (pv 2))) (blkOk_by (own := [("kind", 3)]) (N := ["self", "word", "kinds", "kind"]) (sc := defScope s_Book_turned) (by decide +kernel)) (fun _ _ _ _ _ => by exact (pg_name (i := 3) sc_Book_turned.nd rfl (Or.inl rfl))) (fun _ _ _ _ _ => by exact pts_nil) (fun _ _ _ _ _ => by exact (pe_hasP p4 T.cl (hr.mono (by decide)) (pv 3)))) pa_nil)))))), ?_⟩
    refine ⟨_, rfl, a, dx, _, rfl, ha, rfl, _, rfl, a, l, rs, qs, us, rfl, hb, hl, hw, fun q ps H1 nq hq hp s1 => ?_⟩
    refine next_of ?_
    dsimp only
    have len := paired_len hp
    have h240 := hw.1
    refine ⟨_, rfl, q, rfl, ⟨_, SqL.of hq⟩, for_list (K := K) (a := q) (xs := ps.map V.ref) (fun j σ H' => ∃ v3 : Option V, σ = [some (.ref a), some (.ref l), some (.ref q), v3] ∧ H' = H1) ⟨none, rfl, rfl⟩ (fun j σ H' _ h => ?_) (fun j x σ H' hx h => ?_) (fun σ H' h => ?_)⟩
    · obtain ⟨_, _, rfl⟩ := h
      exact SqL.of hq
    · obtain ⟨v3, rfl, rfl⟩ := h
      obtain ⟨b, hbx, rfl⟩ := map_at hx
      obtain ⟨u, hu, kb⟩ := paired_get hp hbx
      obtain ⟨db, hb'⟩ := id kb
      refine ⟨_, rfl, b, db, _, rfl, hb', b, u, rfl, kb, ?_⟩
      exact ⟨rfl, _, rfl, ite2 (fun c => absurd (c.symm.trans (isN_some (hg u (List.mem_of_getElem? hu)))) (by decide)) (fun _ => ⟨_, rfl, rfl⟩)⟩
    · obtain ⟨v3, rfl, rfl⟩ := h
      refine next_of ?_
      dsimp only
      refine ⟨_, rfl, q, ps.map V.ref, rfl, SqL.of hq, fun r nr => ⟨r, rfl, ⟨_, SqL.of upd_same⟩, fun D nD => lc_map walk_list (gAt us.reverse fun u => ov u.back) nD (by rw [List.length_reverse, List.length_map]; omega) (fun H' s' => SqL.of (s' _ _ upd_same)) ?_ ?_⟩⟩
      · rintro i x H2 H3 hi s2 ⟨rfl, hx⟩ R hR
        rw [← List.map_reverse] at hx
        obtain ⟨b, hbx, rfl⟩ := map_at hx
        obtain ⟨u, hu, kb⟩ := paired_get (paired_rev hp) hbx
        have kb2 := (kb.same (Same.new nr)).same s2
        obtain ⟨db, hb'⟩ := id kb2
        have qq := hR H3 (Same.refl _)
        rw [gAt, hu] at qq
        exact ⟨rfl, _, rfl, b, db, _, rfl, hb', b, u, rfl, kb2, qq⟩
      · intro H2 s2 hD
        have lr : (ps.map V.ref).reverse.length = us.reverse.length := by rw [List.length_reverse, List.length_map, List.length_reverse, len]
        rw [lr, gAt_all] at hD
        refine ⟨D, _, rfl, .inl ⟨SqL.of hD, fun z nz => ?_⟩⟩
        have s3 : Same H H2 := (s1.trans (Same.new nr)).trans s2
        have nz0 : H z = none := by
          cases e : H z with
          | none => rfl
          | some o => rw [s3 _ _ e] at nz; cases nz
        exact k z _ nz0 upd_same (s3.trans (Same.new nz))
abbrev s_Book_mirrored : Stmt := inClass (top 27) 10
theorem sc_Book_mirrored : FnScope ["self", "word", "kinds", "kind"] ["self", "word"] (defScope s_Book_mirrored) := ⟨rfl, rfl, rfl, by decide +kernel, rfl, by decide +kernel, by decide +kernel⟩
theorem m_mirrored (B : Blts mg) (U : BookT K mg CB) (T : KindT K mg C Cs) (F : MethAt K CB "mirrored" "Book.mirrored" s_Book_mirrored) (p5 : PK' P w K mg base C "mirror" fun r => ov r.mirror) (m_kinds_of : HasM P w K mg base CB "_kinds_of" 2 ["self", "word"] (spKindsOf CB C)) : HasMK P w K mg base CB "mirrored" 3 "self" "word" (spBackward CB C Row.mirror) := by
  refine hasMK_of F sc_Book_mirrored (fun _ _ _ _ _ _ us hl => match us, hl with | [_, _], _ => rfl) (fun vs H Q E h => ?_) (fun f cdv A outer s H vs Q E hr h => ?_)
  · obtain ⟨_, _, _, _, _, rfl, _⟩ := h
    rfl
  · obtain ⟨a, l, rs, qs, us, rfl, hb, hl, hw, hg, k⟩ := h
    obtain ⟨dx, _, _, _, _, ha, _⟩ := id hb
    refine ⟨_, (pss_cons (ps_set (i := 2) sc_Book_mirrored.nd rfl (Or.inl rfl) (pe_hasM m_kinds_of U.cl (hr.mono (by decide)) (pv 0) (pa_cons (pv 1) pa_nil)))
      (pss_cons (ps_for PassesOwn.never rfl (pi_list (pv 2)) (pg_name (i := 3) sc_Book_mirrored.nd rfl (Or.inl rfl))
        (pss_one (ps_if (pt_cmpR op_isN (pe_hasP p5 T.cl (hr.mono (by decide)) (pv 3)) pe_non (by first | exact nomark _ | rfl)) (pss_one ps_never)
          pss_nil)))
      (pss_one (ps_ret (pe_callTy call_tuple_of (by rfl) B.n_tuple (by decide +kernel) (pa_cons (pe_lc (own := [("kind", 3)]) rfl sc_Book_mirrored.nd (pi_list (pe_revL (pv 2))) (blkOk_by (own := [("kind", 3)]) (N := ["self", "word", "kinds", "kind"]) (sc := defScope s_Book_mirrored) (by decide +kernel)) (fun _ _ _ _ _ => by exact (pg_name (i := 3) sc_Book_mirrored.nd rfl (Or.inl rfl))) (fun _ _ _ _ _ => by exact pts_nil) (fun _ _ _ _ _ => by exact (pe_hasP p5 T.cl (hr.mono (by decide)) (pv 3)))) pa_nil)))))), ?_⟩
    refine ⟨_, rfl, a, dx, _, rfl, ha, rfl, _, rfl, a, l, rs, qs, us, rfl, hb, hl, hw, fun q ps H1 nq hq hp s1 => ?_⟩
    refine next_of ?_
    dsimp only
    have len := paired_len hp
    have h240 := hw.1
    refine ⟨_, rfl, q, rfl, ⟨_, SqL.of hq⟩, for_list (K := K) (a := q) (xs := ps.map V.ref) (fun j σ H' => ∃ v3 : Option V, σ = [some (.ref a), some (.ref l), some (.ref q), v3] ∧ H' = H1) ⟨none, rfl, rfl⟩ (fun j σ H' _ h => ?_) (fun j x σ H' hx h => ?_) (fun σ H' h => ?_)⟩
    · obtain ⟨_, _, rfl⟩ := h
      exact SqL.of hq
    · obtain ⟨v3, rfl, rfl⟩ := h
      obtain ⟨b, hbx, rfl⟩ := map_at hx
      obtain ⟨u, hu, kb⟩ := paired_get hp hbx
      obtain ⟨db, hb'⟩ := id kb
      refine ⟨_, rfl, b, db, _, rfl, hb', b, u, rfl, kb, ?_⟩
      exact ⟨rfl, _, rfl, ite2 (fun c => absurd (c.symm.trans (isN_some (hg u (List.mem_of_getElem? hu)))) (by decide)) (fun _ => ⟨_, rfl, rfl⟩)⟩
    · obtain ⟨v3, rfl, rfl⟩ := h
      refine next_of ?_
      dsimp only
      refine ⟨_, rfl, q, ps.map V.ref, rfl, SqL.of hq, fun r nr => ⟨r, rfl, ⟨_, SqL.of upd_same⟩, fun D nD => lc_map walk_list (gAt us.reverse fun u => ov u.mirror) nD (by rw [List.length_reverse, List.length_map]; omega) (fun H' s' => SqL.of (s' _ _ upd_same)) ?_ ?_⟩⟩
      · rintro i x H2 H3 hi s2 ⟨rfl, hx⟩ R hR
        rw [← List.map_reverse] at hx
        obtain ⟨b, hbx, rfl⟩ := map_at hx
        obtain ⟨u, hu, kb⟩ := paired_get (paired_rev hp) hbx
        have kb2 := (kb.same (Same.new nr)).same s2
        obtain ⟨db, hb'⟩ := id kb2
        have qq := hR H3 (Same.refl _)
        rw [gAt, hu] at qq
        exact ⟨rfl, _, rfl, b, db, _, rfl, hb', b, u, rfl, kb2, qq⟩
      · intro H2 s2 hD
        have lr : (ps.map V.ref).reverse.length = us.reverse.length := by rw [List.length_reverse, List.length_map, List.length_reverse, len]
        rw [lr, gAt_all] at hD
        refine ⟨D, _, rfl, .inl ⟨SqL.of hD, fun z nz => ?_⟩⟩
        have s3 : Same H H2 := (s1.trans (Same.new nr)).trans s2
        have nz0 : H z = none := by
          cases e : H z with
          | none => rfl
          | some o => rw [s3 _ _ e] at nz; cases nz
        exact k z _ nz0 upd_same (s3.trans (Same.new nz))
end
end N

set_option maxHeartbeats 4000000
/-! x in y, x not in y: y an instance whose class tells it by a def -/
namespace L2
open PySem PySem.Spec PyProof.Rows
section
variable {X : Cx} {CX : CXT} {C g : Addr} {n : Nat} {fd : FuncData} {ps : List Str} {sp : Sp} {E : XK}
def rInOwn (yes : Bool) (C : Addr) (sp : Sp) (E : XK) : R2 := fun x y H Q => ∃ a dx fs, y = .ref a ∧ H a = some (.ins C dx fs) ∧ sp [y, x] H (fun z H' => ∃ r, z = .bl r ∧ Q (.bl (r == yes)) H') E
theorem truthy_bl {M : Model} {A : Around} {E : Value → Shared → Prop} {b : Bool} {Q : Bool → Shared → Prop} {s : Shared} (h : Q b s) : wpAny M A (truthy (.bool b)) Q E s := by
  show wpAny M A (pure b) Q E s
  exact wpAny_pure h
theorem op_inOwn (hs : PySem.W.findIn X.K (.ref C) "__contains__" = some (some (.ref g))) (hf : PySem.W.isFn X.K (.ref g) = true)
    (F : FnOk X.prog X.w X.K X.mg X.base CX n g fd ps sp) (hb : Binds X.K fd ps []) (hr : Room n X.A) (hx : Passes CX X E) : OpR X (compareOp .In) (rInOwn true C sp E) := by
  intro pins s σ H x y v u Q I rx ry h
  obtain ⟨a, dx, fs, rfl, ha, q⟩ := h
  cases (show u = Value.ref a from ry)
  obtain ⟨mA, O, _, _, _, _⟩ := ins_get I.hok ha
  obtain ⟨od, J, _⟩ := O.look
  obtain ⟨m, hF⟩ := I.fr
  refine PySem.W.in_K hF I.ok.mod.kin J hs hf ?_
  refine wpAny_mono (run_fn (us := [.ref a, v]) (vs := [.ref a, x]) (dvs := []) F hr hb .nil hx I (.cons rfl (.cons rx .nil)) (by exact q)) (fun w s' z => ?_) fun _ _ x => x
  obtain ⟨z', H', I', rz, r, ez, qz⟩ := z
  subst ez
  cases (show w = Value.bool r from rz)
  have e : (r == true) = r := by cases r <;> rfl
  rw [e] at qz
  exact truthy_bl ⟨.bl r, H', I', rfl, qz⟩
theorem op_notInOwn (hs : PySem.W.findIn X.K (.ref C) "__contains__" = some (some (.ref g))) (hf : PySem.W.isFn X.K (.ref g) = true)
    (F : FnOk X.prog X.w X.K X.mg X.base CX n g fd ps sp) (hb : Binds X.K fd ps []) (hr : Room n X.A) (hx : Passes CX X E) : OpR X (compareOp .NotIn) (rInOwn false C sp E) := by
  intro pins s σ H x y v u Q I rx ry h
  obtain ⟨a, dx, fs, rfl, ha, q⟩ := h
  cases (show u = Value.ref a from ry)
  obtain ⟨mA, O, _, _, _, _⟩ := ins_get I.hok ha
  obtain ⟨od, J, _⟩ := O.look
  obtain ⟨m, hF⟩ := I.fr
  refine PySem.W.notIn_K hF I.ok.mod.kin J hs hf ?_
  refine wpAny_mono (run_fn (us := [.ref a, v]) (vs := [.ref a, x]) (dvs := []) F hr hb .nil hx I (.cons rfl (.cons rx .nil)) (by exact q)) (fun w s' z => ?_) fun _ _ x => x
  obtain ⟨z', H', I', rz, r, ez, qz⟩ := z
  subst ez
  cases (show w = Value.bool r from rz)
  have e : (r == false) = !r := by cases r <;> rfl
  rw [e] at qz
  exact truthy_bl ⟨.bl (!r), H', I', rfl, qz⟩
end
/-- by the bundle of a method -/
theorem op_inM {X : Cx} {C : Addr} {n : Nat} {ps : List Str} {sp : Sp} (h : HasM X.prog X.w X.K X.mg X.base C "__contains__" n ps sp) (hr : Room n X.A) : OpR X (compareOp .In) (rInOwn true C sp E0) := by
  obtain ⟨f, fd, hm, hb, F⟩ := h.ex
  exact op_inOwn hm.at_ hm.fn F hb hr pass0
theorem op_notInM {X : Cx} {C : Addr} {n : Nat} {ps : List Str} {sp : Sp} (h : HasM X.prog X.w X.K X.mg X.base C "__contains__" n ps sp) (hr : Room n X.A) : OpR X (compareOp .NotIn) (rInOwn false C sp E0) := by
  obtain ⟨f, fd, hm, hb, F⟩ := h.ex
  exact op_notInOwn hm.at_ hm.fn F hb hr pass0
end L2

set_option maxHeartbeats 4000000
namespace N
open PySem L2
def spKindNamed (CB C : Addr) : Sp := fun vs H Q _ => ∃ (a : Addr) (rs qs : List Row) (u : Row), vs = [.ref a, .str u.name] ∧ BookAt CB C H a rs qs ∧ u ∈ rs ∧ NameOk u.name ∧ ∀ b, KindAt C H b u → Q (.ref b) H
section
variable {P : Program} {w : World} {K : PySem.W.Frag} {mg : Str → Option Value} {base : Heap} {C CB : Addr} {Cs : Nat → Addr}
abbrev s_Book_kind : Stmt := inClass (top 27) 2
theorem sc_Book_kind : FnScope ["self", "name"] ["self", "name"] (defScope s_Book_kind) := ⟨rfl, rfl, rfl, by decide +kernel, rfl, by decide +kernel, by decide +kernel⟩
theorem m_kind (U : BookT K mg CB) (F : MethAt K CB "kind" "Book.kind" s_Book_kind) (m_contains : HasM P w K mg base CB "__contains__" 1 ["self", "x"] (spIn CB C)) : HasMK P w K mg base CB "kind" 2 "self" "name" (spKindNamed CB C) := by
  refine hasMK_of F sc_Book_kind (fun _ _ _ _ _ _ us hl => match us, hl with | [_, _], _ => rfl) (fun vs H Q E h => ?_) (fun f cdv A outer s H vs Q E hr h => ?_)
  · obtain ⟨_, _, _, _, rfl, _⟩ := h
    rfl
  · obtain ⟨a, rs, qs, u, rfl, hb, hu, hn, k⟩ := h
    obtain ⟨dx, t, d, as, bs, ha, ht, hbs, hd, has, nd⟩ := id hb
    refine ⟨_, (pss_cons (ps_if (pt_cmpR (op_notInM m_contains (hr.mono (by decide))) (pv 1) (pv 0) (by first | exact nomark _ | rfl)) (pss_one ps_never)
        pss_nil)
      (pss_one (ps_ret (pe_dget hr.u1 (pe_fld (pv 0) rfl) (pv 1) (fun _ _ => rfl))))), ?_⟩
    have hin : inBook rs (.str u.name) = true := decide_eq_true (List.mem_map_of_mem hu)
    obtain ⟨gb, kb⟩ := kAt_is has nd hu
    refine ⟨_, rfl, _, rfl, a, dx, _, rfl, ha, a, .str u.name, rs, qs, rfl, hb, .str u.name (by have := hn.2.1; omega) hn.sign, ?_⟩
    refine ⟨_, rfl, _, rfl, ite2 (fun c => absurd c (by rw [hin]; decide)) (fun _ => ?_)⟩
    refine next_of ?_
    dsimp only
    exact ⟨_, rfl, a, CB, dx, _, _, rfl, ha, U.cl, U.nt, rfl, _, rfl, d, _, rfl, .inl ⟨_, .inr u.name, .inl hd, rfl, gb.symm⟩, k _ kb⟩
end
end N

set_option maxHeartbeats 4000000
/-! own errors over any built-in error: their fields, and that they are made -/
namespace ExB
open PySem PySem.W PySem.Calls PyProof.Rows Builtin Builtin.ObjectAttr
section
variable {prog : Program} {w : World} {A : Around} {R : Result → Shared → Prop} {hp : Heap} {g : Array GenState} {d : Drawn} {t : Nat} {os : OsState} {B : String} {bmB : List Value} {K : Frag} {C x : Addr} {name : Str} {tk : Tok} {v : Value}
theorem no_taker (h : findIn K (.ref C) name = some none) : takerIn K C name = some none := by
  unfold takerIn
  rw [h]
  rfl
/-- the first field: a dict is laid for it -/
theorem first_field {fv : Array Value} {cd : ClassData} (SF : StoreFacts B bmB "object.__setattr__" "object") (X : K.In hp) (e : hp.get? x = some { cls := .ref C, data := .fields fv }) (ov : excOver K C bmB = true) (c : clsIn K C = some cd) (hd : cd.hasDict = true) (no : findIn K (.ref C) name = some none)
    (q : ∀ h' tk' dx, (∀ b o, b ≠ x → hp.get? b = some o → h'.get? b = some o) → hp.objs.size ≤ dx → dx ≠ x → h'.get? x = some { cls := .ref C, dict := some dx, data := .fields fv } → h'.Ns1 dx (fun y => if y = name then some v else none) → R (.ok (.ret .none)) ⟨h', g, d, tk', os⟩) :
    codeAny (model prog w) A (.call (.builtin "object.__setattr__") ⟨[.ref x, .str name tk, v], []⟩) R ⟨hp, g, d, t, os⟩ := by
  have nx : x ≠ hp.objs.size := Nat.ne_of_lt (Heap.lt_size e)
  have I : InstAt hp x { cls := .ref C, data := .fields fv } C none := ⟨e, rfl, rfl, trivial⟩
  refine osa_openX SF X I ov (no_taker no) fun b => ?_
  have look : Looks (model prog w) hp (classData C) cd := looks_clsIn X c
  show wpAny _ _ (storeInOwnDict (.ref x) (.ref C) (.str name tk) name v b) _ _ _
  cases cd
  cases (show _ = true from hd)
  unfold storeInOwnDict ownDictForStores
  repeat (first | with_reducible refine PX.store_in_new ?_ ?_ | with_reducible refine wpAny_loadPart_at e ?_ | with_reducible refine look.at ?_ | wp_step)
  · exact ⟨_, #[], _, (Heap.get?_update_ne _ _ _ _ nx.symm).trans (Heap.get?_push_at rfl rfl), rfl, fun p z => absurd z (by simp), fun _ => rfl⟩
  · intro h' tk' hn hs
    have e' := Heap.get?_push_of_some ({ cls := .type "dict", data := .dict #[] } : Obj) e
    have old : ∀ b o, b ≠ x → hp.get? b = some o → h'.get? b = some o := fun b o nb ho => (hs.2 b (Nat.ne_of_lt (Heap.lt_size ho))).trans ((Heap.get?_update_ne _ _ _ _ nb).trans (Heap.get?_push_of_some _ ho))
    exact q h' tk' _ old (Nat.le_refl _) nx.symm ((hs.2 x nx).trans (Heap.get?_update_self _ e' rfl)) hn
/-- a further field -/
theorem next_field {fv : Array Value} {cd : ClassData} {dx : Addr} {m0 : Str → Option Value} {nl : List Str} (SF : StoreFacts B bmB "object.__setattr__" "object") (X : K.In hp) (e : hp.get? x = some { cls := .ref C, dict := some dx, data := .fields fv }) (ns : hp.Ns1 dx m0) (wi : Within m0 nl) (lz : nl.length ≤ 1000)
    (ov : excOver K C bmB = true) (c : clsIn K C = some cd) (hd : cd.hasDict = true) (no : findIn K (.ref C) name = some none)
    (q : ∀ h' tk', (∀ b o, b ≠ dx → hp.get? b = some o → h'.get? b = some o) → h'.Ns1 dx (fun y => if y = name then some v else m0 y) → R (.ok (.ret .none)) ⟨h', g, d, tk', os⟩) :
    codeAny (model prog w) A (.call (.builtin "object.__setattr__") ⟨[.ref x, .str name tk, v], []⟩) R ⟨hp, g, d, t, os⟩ := by
  obtain ⟨od, _, _, eD, eE, _⟩ := ns.count wi
  have I : InstAt hp x { cls := .ref C, dict := some dx, data := .fields fv } C (some od) := ⟨e, rfl, rfl, eD⟩
  refine osa_openX SF X I ov (no_taker no) fun b => ?_
  have look : Looks (model prog w) hp (classData C) cd := looks_clsIn X c
  show wpAny _ _ (storeInOwnDict (.ref x) (.ref C) (.str name tk) name v b) _ _ _
  cases cd
  cases (show _ = true from hd)
  unfold storeInOwnDict ownDictForStores
  repeat (first | with_reducible refine PySem.OEX.store_in_old ns wi lz ?_ | with_reducible refine wpAny_loadPart_at e ?_ | with_reducible refine look.at ?_ | wp_step)
  intro h' tk' hn hs
  exact q h' tk' (fun b o nb ho => (hs.2 b nb).trans ho) hn
end
end ExB

set_option maxHeartbeats 4000000
namespace L2
open PySem PySem.Spec PyProof.Rows
/-- an own error's class over the built-in B, as it stands behind the top -/
structure OexB (K : PySem.W.Frag) (C : Addr) (B newId initId : String) (bmB : List Value) : Prop where
  cls : ∃ nm q N bs bm sn sub ab col dd k0 k1 k2 k3 k5, K.lookup C = some (excClassObj nm q C N bs bm true sn sub ab col dd k0 k1 k2 k3 k5 newId) ∧ PySem.W.excTail bmB bm = true
  sa : PySem.W.findIn K (.ref C) "__setattr__" = some (some (.builtin "object.__setattr__"))
  exC : PySem.W.subIn K (.ref C) (.type "BaseException") = some true
  tyC : PySem.W.typeIn K (.ref C) = some (.type "type")
  kC : PySem.W.keepIn K (.ref C) = true
  sf : StoreFacts B bmB "object.__setattr__" "object"
  fb : ExcBaseFacts B newId initId bmB
theorem OexB.parts {K : PySem.W.Frag} {C : Addr} {B newId initId : String} {bmB : List Value} (T : OexB K C B newId initId bmB) : PySem.W.excOver K C bmB = true ∧ ∃ cd, PySem.W.clsIn K C = some cd ∧ cd.hasDict = true := by
  obtain ⟨nm, q, N, bs, bm, sn, sub, ab, col, dd, k0, k1, k2, k3, k5, hC, tl⟩ := T.cls
  have c : PySem.W.clsIn K C = some { name := nm, bases := bs, mro := .ref C :: bm, ns := N, qualname := q, hasDict := true, slotNames := sn, subclasses := sub, abstract := ab, collection := col, hasDel := false } := by unfold PySem.W.clsIn; rw [hC] <;> rfl
  refine ⟨?_, _, c, rfl⟩
  unfold PySem.W.excOver
  rw [c]
  show ((C == C) && PySem.W.excTail bmB bm) = true
  rw [tl]
  simp
section
variable {X : Cx} {pins : List (Addr × Obj)} {σ : St} {H : Hp} {s : Shared} {a C dx : Addr} {f : Str} {y : V} {u : Value} {fs : List (Str × V)} {Q : Unit → Shared → Prop} {E : Value → Shared → Prop} {A : Around} {B newId initId : String} {bmB : List Value}
theorem put_first (T : OexB X.K C B newId initId bmB) (I : Inv X pins σ H s) (e : H a = some (exo a C none)) (no : PySem.W.findIn X.K (.ref C) f = some none) (ry : RelV y u)
    (h : ∀ dx s', H dx = none → dx ≠ a → Inv X pins σ (upd (upd H dx (exd dx [(f, y)])) a (exo a C (some dx))) s' → Q () s') : wpAny (model X.prog X.w) A (setAttr (.ref a) f u) Q E s := by
  obtain ⟨ov, cd, c, hd⟩ := T.parts
  obtain ⟨t1, o⟩ := exo_at I.hok e
  obtain ⟨hp, g, d, t, os⟩ := s
  refine PySem.W.set_plain I.kIn (ox := { cls := .ref C, dict := none, data := .fields #[.ref t1, .none, .none, .none, .bool false, .none] }) (od := none) ⟨o, rfl, rfl, trivial⟩ T.sa ?_
  refine ExB.first_field T.sf I.kIn o ov c hd no fun h' tk' dx old ge ne o' ns => ?_
  have fresh : H dx = none := I.hok.fresh ge
  -- between the two: the dict is there, the error as it was
  let mid : Heap := h'.update a fun _ => { cls := .ref C, dict := none, data := .fields #[.ref t1, .none, .none, .none, .bool false, .none] }
  have midA : mid.get? a = some { cls := .ref C, dict := none, data := .fields #[.ref t1, .none, .none, .none, .bool false, .none] } := Heap.get?_update_self _ o' rfl
  have midN : ∀ b, b ≠ a → mid.get? b = h'.get? b := fun b n => Heap.get?_update_ne _ _ _ _ n
  have keep : ∀ b o, hp.get? b = some o → mid.get? b = some o := fun b o1 q => by
    by_cases z : b = a
    · subst z
      rw [o] at q
      cases q
      exact midA
    · rw [midN b z]
      exact old b o1 z q
  have nsM := ns.at fun o1 q => (midN dx ne).trans q
  have I1 : Inv X pins σ (upd H dx (exd dx [(f, y)])) ⟨mid, g, d, t, os⟩ := I.laid (t' := t) (a := dx) (o := exd dx [(f, y)]) (h' := mid) keep ge (exd_ok nsM (relO_put (fs := []) ry fun _ => True.intro))
  have eA : (upd H dx (exd dx [(f, y)])) a = some (exo a C none) := (upd_ne ne.symm).trans e
  have I2 := I1.write (t' := tk') (x := a) (e := a) (o := exo a C (some dx)) (by rw [eA]; exact True.intro) (.inl rfl) (fun b o1 n q => (midN b n).symm.trans q) ⟨_, o'⟩ (exo_ok o')
  exact h dx _ fresh ne I2
theorem put_next (T : OexB X.K C B newId initId bmB) (I : Inv X pins σ H s) (e : H a = some (exo a C (some dx))) (ed : H dx = some (exd dx fs)) (lz : fs.length ≤ 900) (no : PySem.W.findIn X.K (.ref C) f = some none) (ry : RelV y u)
    (h : ∀ s', Inv X pins σ (upd H dx (exd dx ((f, y) :: fs))) s' → Q () s') : wpAny (model X.prog X.w) A (setAttr (.ref a) f u) Q E s := by
  obtain ⟨ov, cd, c, hd⟩ := T.parts
  obtain ⟨t1, o⟩ := exo_at I.hok e
  obtain ⟨mA, ns, rel⟩ := exd_at I.hok ed
  have wi := within_of rel
  obtain ⟨hp, g, d, t, os⟩ := s
  obtain ⟨oD, _, _, eD, _, _⟩ := ns.count wi
  refine PySem.W.set_plain I.kIn (ox := { cls := .ref C, dict := some dx, data := .fields #[.ref t1, .none, .none, .none, .bool false, .none] }) (od := some oD) ⟨o, rfl, rfl, eD⟩ T.sa ?_
  refine ExB.next_field T.sf I.kIn o ns wi (by rw [List.length_map]; omega) ov c hd no fun h' tk' old ns' => ?_
  have there : ∃ o, h'.get? dx = some o := let ⟨o, _, _, q, _⟩ := ns'; ⟨o, q⟩
  exact h _ (I.write (t' := tk') (x := dx) (e := dx) (o := exd dx ((f, y) :: fs)) (by rw [ed]; exact True.intro) (.inl rfl) old there (exd_ok ns' (relO_put ry rel)))
end
end L2

set_option maxHeartbeats 4000000
namespace L2
open PySem PySem.Spec PyProof.Rows
/-- self.f = e, self an error of the class at C over B that is being made -/
def tPut (K : PySem.W.Frag) (B newId initId : String) (bmB : List Value) (f : Str) (to te : TE) : TS := fun D σ H => te σ H fun y H1 => to σ H1 fun x H2 => ∃ a C : Addr, x = .ref a ∧ OexB K C B newId initId bmB ∧ PySem.W.findIn K (.ref C) f = some none ∧
  ((H2 a = some (exo a C none) ∧ ∀ dx, H2 dx = none → dx ≠ a → D.nx σ (upd (upd H2 dx (exd dx [(f, y)])) a (exo a C (some dx)))) ∨
    ∃ (dx : Addr) (fs : List (Str × V)), H2 a = some (exo a C (some dx)) ∧ H2 dx = some (exd dx fs) ∧ fs.length ≤ 900 ∧ D.nx σ (upd H2 dx (exd dx ((f, y) :: fs))))
section
variable {X : Cx} {o e : Expr} {es : List Expr} {to te : TE} {ta : TA} {f : Str} {p p' p1 p2 pos : Pos} {B newId initId : String} {bmB : List Value}
theorem ps_put (ho : PE X o to) (he : PE X e te) (hs : swapsWith e (some (.Attribute o f p')) pos.line X.env = pure false := by rfl) : PS X (.Assign [.Attribute o f p'] e pos) (tPut X.K B newId initId bmB f to te) := by
  refine ⟨fun pins s σ H D I h => ?_⟩
  refine plainObj_wpAny_Assign_Attribute (thn (he.run pins s σ H _ I h) fun v s1 ⟨y, H1, I1, r1, q1⟩ => ?_) hs
  refine thn (ho.run pins s1 σ H1 _ I1 q1) fun u s2 ⟨x, H2, I2, r2, a, C, ex, T, no, q⟩ => ?_
  subst ex
  cases (show u = Value.ref a from r2)
  rcases q with ⟨ea, q⟩ | ⟨dx, fs, ea, ed, lz, q⟩
  · exact put_first T I2 ea no r1 fun dx s' n ne J => ⟨σ, _, J, q dx n ne⟩
  · exact put_next T I2 ea ed lz no r1 fun s' J => ⟨σ, _, J, q⟩
/-- C(e, ..) for a raise: C's own __init__ keeps sp -/
theorem pmk_base {CX : CXT} {x : Str} {C fI : Addr} {k : Nat} {fd : FuncData} {ps : List Str} {sp : Sp} {ds : List Value} {dvs : List V} (T : OexB X.K C B newId initId bmB) (ini : PySem.W.findIn X.K (.ref C) "__init__" = some (some (.ref fI))) (ity : PySem.W.typeIn X.K (.ref fI) = some (.type "function"))
    (F1 : FnOk X.prog X.w X.K X.mg X.base CX k fI fd ps sp) (hr : Room (k + 1) X.A) (hb : Binds X.K fd ps ds) (hd : Vals dvs ds) (hx : Passes CX X (fun _ _ _ => False)) (hg : Gl X x) (hm : X.mg x = some (.ref C)) (ha : PA X (e :: es) ta)
    (hdb : (x == ("__debug__" : Str)) = false := by decide) (he : starEach (e :: es) X.env = (false, eval e X.env) :: starEach es X.env := by rfl) (hpl : (backTo pos (starEach es X.env)).any (·.1) = false := by rfl) :
    PMk X (.Call (.Name x p) (e :: es) [] pos) (tMkO C sp dvs ta) := by
  intro pins s σ H Q I h
  obtain ⟨_, _, _, _, bm, _, _, _, _, _, _, _, _, _, _, cC, tl⟩ := T.cls
  refine wpAny_Call_Name_kw (ld_glob I hg hm ?_ hdb)
  refine PySem.W.callWith_K (h₀ := X.base) I.ok.mod.kin T.kC (thn (ha.run pos pins s σ H _ I h) fun us s1 ⟨vs, H1, I1, r1, few, q1⟩ => ⟨I1.kIn, ?_⟩) he hpl
  show wpAny _ _ (call (.ref C) us) _ _ _
  obtain ⟨hp, g, dr, tk, os⟩ := s1
  let at_ : Addr := hp.objs.size + 1
  let laid : Heap := (hp.push (PySem.W.kdv_tup us)).push (PySem.PX.excO C hp.objs.size)
  have up : hp.objs.size ≤ at_ := Nat.le_succ _
  have n1 : H1 at_ = none := I1.hok.fresh up
  have q2 := q1 at_ n1
  have old : ∀ b o, hp.get? b = some o → laid.get? b = some o := fun b o z => Heap.get?_push_of_some _ (Heap.get?_push_of_some _ z)
  have new : laid.get? at_ = some (PySem.PX.excO C hp.objs.size) := by
    show ((hp.push (PySem.W.kdv_tup us)).push (PySem.PX.excO C hp.objs.size)).get? (hp.objs.size + 1) = _
    heap_get
  have I2 : Inv X pins σ (upd H1 at_ (exo at_ C none)) ⟨laid, g, dr, tk, os⟩ := I1.laid (t' := tk) old up (exo_ok new)
  have r2 : Vals (V.ref at_ :: (vs ++ dvs)) (Value.ref at_ :: (us ++ ds)) := .cons rfl (r1.append hd)
  have len : (Value.ref at_ :: us ++ ds).length = ps.length := (r2.length.symm.trans (F1.len _ _ _ _ q2) : _)
  have fits : us.length ≤ sizeLine := by rw [← Paired.length r1, sizeLine_eq]; omega
  refine wpAny_call (PySem.PX.call_own T.fb (fun Y => PySem.W.excTail_contains Y bm tl) (I1.kIn _ _ cC) (PySem.W.looks_findIn I1.kIn ini) (fun self => PySem.W.bind_fn I1.kIn self ity) fits ?_)
  refine codeAny_mono (F1.run _ X.stack _ _ ⟨Value.ref at_ :: us, []⟩ (Value.ref at_ :: (us ++ ds)) _ _ (fun _ _ _ => False) (hr.make C us []) (I2.env0.make C us []) (hb _ (Value.ref at_ :: us) I2.kIn len) r2 q2) fun r s' z => ?_
  match r, z with
  | .error er, z => exact hx pins σ _ _ er s' I2 z
  | .ok (.ret u), ⟨v, H2, os2, bare2, un2, ok2, rv, ev, d, fs, ea, ed, hd1, q3⟩ =>
    subst ev
    obtain ⟨h2, g2, d2, t2, os'⟩ := s'
    exact ⟨rv, mk_end (raises_own T.exC T.tyC) I1 up old un2 ok2 os2 bare2 ea ed hd1 q3⟩
end
end L2

set_option maxHeartbeats 4000000
/-! own errors with one field, or two, over any built-in base: raised -/
namespace L2
open PySem PySem.Spec PyProof.Rows
structure ErrB (K : PySem.W.Frag) (mg : Str → Option Value) (x : Str) (C : Addr) (st : Stmt) (qual : Str) (B newId initId : String) (bmB : List Value) : Prop where
  o : OexB K C B newId initId bmB
  r : XfC K C
  g : mg x = some (.ref C)
  ini : ∃ (fI : Addr) (fd : FuncData), PySem.W.findIn K (.ref C) "__init__" = some (some (.ref fI)) ∧ PySem.W.typeIn K (.ref fI) = some (.type "function") ∧ Fun K "__init__" qual st fI fd
/-- what the __init__ of one with two fields promises -/
def spErr2 (f g : Str) (C : Addr) : Sp := fun vs H Q _ => ∃ (a : Addr) (v u : V), vs = [.ref a, v, u] ∧ H a = some (exo a C none) ∧ ∀ d, H d = none → d ≠ a → Q .non (upd (upd H d (exd d [(g, u), (f, v)])) a (exo a C (some d)))
def tErr2 (f g : Str) (C : Addr) (t : TA) : St → Hp → XK → Prop := fun σ H Q => t σ H fun vs H1 => ∃ v u, vs = [v, u] ∧ ∀ d, H1 d = none → Q (.ref C) (some d) (upd H1 d (.xd [(g, u), (f, v)]))
section
variable {X : Cx} {x f g qual : Str} {C : Addr} {st : Stmt} {p pos pos2 : Pos} {e e2 : Expr} {t : TA} {W : WX} {B newId initId : String} {bmB : List Value}
theorem pmk_errB (T : ErrB X.K X.mg x C st qual B newId initId bmB) (F : ∀ fI fd, Fun X.K "__init__" qual st fI fd → FnOk X.prog X.w X.K X.mg X.base CX0 1 fI fd ["self", f] (spErr f C) ∧ Binds X.K fd ["self", f] []) (hr : Room 2 X.A) (ha : PA X [e] t) (hg : Gl X x := by rfl)
    (hdb : (x == ("__debug__" : Str)) = false := by decide) (he : starEach (e :: []) X.env = (false, eval e X.env) :: starEach [] X.env := by rfl) (hpl : (backTo pos (starEach [] X.env)).any (·.1) = false := by rfl) :
    PMk X (.Call (.Name x p) [e] [] pos) (tErr f C t) := by
  intro pins s σ H Q I h
  obtain ⟨fI, fd, i1, i2, i3⟩ := T.ini
  obtain ⟨f1, f2⟩ := F fI fd i3
  refine pmk_base T.o i1 i2 f1 hr f2 .nil pass0 hg T.g ha.up hdb he hpl pins s σ H Q I ⟨_, h, fun vs H1 q => ?_⟩
  obtain ⟨v, rfl, q⟩ := q
  refine ⟨by show 1 ≤ 1000; decide, fun a na => ⟨a, v, rfl, upd_same, fun d hd ne => ⟨rfl, d, [(f, v)], upd_same, (upd_ne ne).trans upd_same, ?_, ?_⟩⟩⟩
  · rwa [upd_ne ne] at hd
  · rw [upd_ne ne] at hd
    rw [err_heap na ne]
    exact q d hd
theorem ps_raiseB (hc : X.calm = true) (T : ErrB X.K X.mg x C st qual B newId initId bmB) (F : ∀ fI fd, Fun X.K "__init__" qual st fI fd → FnOk X.prog X.w X.K X.mg X.base CX0 1 fI fd ["self", f] (spErr f C) ∧ Binds X.K fd ["self", f] []) (hr : Room 2 X.A) (tk : Takes X W) (ha : PA X [e] t) (hg : Gl X x := by rfl)
    (hdb : (x == ("__debug__" : Str)) = false := by decide) (he : starEach (e :: []) X.env = (false, eval e X.env) :: starEach [] X.env := by rfl) (hpl : (backTo pos (starEach [] X.env)).any (·.1) = false := by rfl) :
    PS X (.Raise (some (.Call (.Name x p) [e] [] pos)) none pos2) (fun _ σ H => tErr f C t σ H fun c d H' => W c d σ H') := ps_raise hc tk (pmk_errB T F hr ha hg hdb he hpl)
theorem pmk_errB2 (T : ErrB X.K X.mg x C st qual B newId initId bmB) (F : ∀ fI fd, Fun X.K "__init__" qual st fI fd → FnOk X.prog X.w X.K X.mg X.base CX0 1 fI fd ["self", f, g] (spErr2 f g C) ∧ Binds X.K fd ["self", f, g] []) (hr : Room 2 X.A) (ha : PA X [e, e2] t) (hg : Gl X x := by rfl)
    (hdb : (x == ("__debug__" : Str)) = false := by decide) (he : starEach (e :: [e2]) X.env = (false, eval e X.env) :: starEach [e2] X.env := by rfl) (hpl : (backTo pos (starEach [e2] X.env)).any (·.1) = false := by rfl) :
    PMk X (.Call (.Name x p) [e, e2] [] pos) (tErr2 f g C t) := by
  intro pins s σ H Q I h
  obtain ⟨fI, fd, i1, i2, i3⟩ := T.ini
  obtain ⟨f1, f2⟩ := F fI fd i3
  refine pmk_base T.o i1 i2 f1 hr f2 .nil pass0 hg T.g ha.up hdb he hpl pins s σ H Q I ⟨_, h, fun vs H1 q => ?_⟩
  obtain ⟨v, u, rfl, q⟩ := q
  refine ⟨by show 2 ≤ 1000; decide, fun a na => ⟨a, v, u, rfl, upd_same, fun d hd ne => ⟨rfl, d, [(g, u), (f, v)], upd_same, (upd_ne ne).trans upd_same, ?_, ?_⟩⟩⟩
  · rwa [upd_ne ne] at hd
  · rw [upd_ne ne] at hd
    rw [err_heap na ne]
    exact q d hd
theorem ps_raiseB2 (hc : X.calm = true) (T : ErrB X.K X.mg x C st qual B newId initId bmB) (F : ∀ fI fd, Fun X.K "__init__" qual st fI fd → FnOk X.prog X.w X.K X.mg X.base CX0 1 fI fd ["self", f, g] (spErr2 f g C) ∧ Binds X.K fd ["self", f, g] []) (hr : Room 2 X.A) (tk : Takes X W) (ha : PA X [e, e2] t) (hg : Gl X x := by rfl)
    (hdb : (x == ("__debug__" : Str)) = false := by decide) (he : starEach (e :: [e2]) X.env = (false, eval e X.env) :: starEach [e2] X.env := by rfl) (hpl : (backTo pos (starEach [e2] X.env)).any (·.1) = false := by rfl) :
    PS X (.Raise (some (.Call (.Name x p) [e, e2] [] pos)) none pos2) (fun _ σ H => tErr2 f g C t σ H fun c d H' => W c d σ H') := ps_raise hc tk (pmk_errB2 T F hr ha hg hdb he hpl)
end
end L2

set_option maxHeartbeats 4000000
namespace L2
open PySem PySem.Spec PyProof.Rows
/-- a method that may raise -/
structure HasMX (P : Program) (w : World) (K : PySem.W.Frag) (mg : Str → Option Value) (base : Heap) (C : Addr) (m : Str) (k : Nat) (ps : List Str) (sp : Sp) : Prop where
  ex : ∃ (f : Addr) (fd : FuncData), Meth K C m f ∧ Binds K fd ps [] ∧ FnOk P w K mg base (L2.CX P w) k f fd ps sp
section
variable {P : Program} {w : World} {K : PySem.W.Frag} {mg : Str → Option Value} {base : Heap} {C : Addr}
theorem hasMX_of {m qual : Str} {st : Stmt} {N ps : List Str} {k : Nat} {sp : Sp} (F : MethAt K C m qual st) (S : FnScope N ps (defScope st))
    (hb : ∀ (kV doc pm : Value) (an : Option Addr) (cdv ct : Value) (us : List Value), us.length = ps.length → bindArgs (PySem.W.fnOf m qual (defArgs st) (defBody st) (defScope st) .none kV doc pm an cdv ct) ⟨us, []⟩ = pure (ps.zip us))
    (len : ∀ vs H Q E, sp vs H Q E → vs.length = ps.length)
    (hbody : ∀ (f : Addr) (cdv : Value) (A : Around) (outer : List Env) (s : Shared) (H : Hp) (vs : List V) (Q : VK) (E : XK), Room k (A.deeper (envOfC qual (defScope st) s.heap.objs.size f cdv)) → sp vs H Q E →
      ∃ t, PSs (cxOf (L2.CX P w) P w K mg base N qual (defScope st) f cdv A outer s H E) (defBody st) t ∧ t { nx := fun _ H' => Q .non H', rt := Q } (start N vs) H) : HasMX P w K mg base C m (k + 1) ps sp := by
  obtain ⟨f, fd, hm, F⟩ := F.ex
  exact ⟨f, fd, hm, F.binds hb, F.okX S len (hbody f)⟩
end
section
variable {X : Cx} {C : Addr} {m : Str} {k : Nat} {ps : List Str} {sp : Sp} {apos pos : Pos} {o e : Expr} {es : List Expr} {ta : TE} {t : TA} {pl : Sem Bool} {E : XK}
theorem pe_hasMX (h : HasMX X.prog X.w X.K X.mg X.base C m k ps sp) (c : Cls X.K C) (hr : Room k X.A) (hx : Passes (L2.CX X.prog X.w) X E) (ho : PE X o ta) (ha : PA X (e :: es) t)
    (hst : starEach (e :: es) X.env = (false, eval e X.env) :: starEach es X.env := by rfl) (hpl : (backTo pos (starEach es X.env)).any (·.1) = false := by rfl)
    (ht : eval (.Call (.Attribute o m apos) (e :: es) [] pos) X.env = (do
      let ov ← eval o X.env
      standAt apos.atName
      let (f, first) ← holding [ov] (getMethod ov m pl)
      callWith pos f first (backTo pos (starEach (e :: es) X.env)) (backToKw pos (keywordEach [] X.env))) := by rfl) :
    PE X (.Call (.Attribute o m apos) (e :: es) [] pos) (tMeth C m sp [] E ta t) := by
  obtain ⟨f, fd, hm, hb, F⟩ := h.ex
  exact pe_meth ho c hm F hr hb .nil hx ha hst hpl ht
end
end L2
namespace N
open PySem L2
abbrev lkT : List Value := [.type "LookupError", .type "Exception", .type "BaseException", .type "object"]
abbrev NoC (K : PySem.W.Frag) (mg : Str → Option Value) (x : Str) (C : Addr) (st : Stmt) (qual : Str) : Prop := ErrB K mg x C st qual "LookupError" "LookupError.__new__" "LookupError.__init__" lkT ∧ PySem.W.findIn K (.ref C) "name" = some none
/-- read backward, or refused with the first kind that has none -/
def spBackX (CB C N : Addr) (g : Row → Option Str) : Sp := fun vs H Q E => ∃ (a l : Addr) (rs qs us : List Row), vs = [.ref a, .ref l] ∧ BookAt CB C H a rs qs ∧ H l = some (.tup (wordV us)) ∧ WordOf rs us ∧
  ((∀ u ∈ us, g u ≠ none) → ∀ q H', H q = none → H' q = some (.tup (us.reverse.map fun u => ov (g u))) → Same H H' → Q (.ref q) H') ∧
  (∀ (i : Nat) (u : Row), us[i]? = some u → g u = none → (∀ (j : Nat) (v : Row), j < i → us[j]? = some v → g v ≠ none) → ∀ d H', Same H H' → H' d = some (.xd [("name", .str u.name)]) → E (.ref N) (some d) H')
section
variable {P : Program} {w : World} {K : PySem.W.Frag} {mg : Str → Option Value} {base : Heap} {C CB CN CM : Addr} {Cs : Nat → Addr}
abbrev s_NoBack___init__ : Stmt := inClass (top 16) 0
theorem sc_NoBackD_initD : FnScope ["self", "name"] ["self", "name"] (defScope s_NoBack___init__) := ⟨rfl, rfl, rfl, by decide +kernel, rfl, by decide +kernel, by decide +kernel⟩
theorem ok_noback (TN : NoC K mg "NoBack" CN s_NoBack___init__ "NoBack.__init__") (fI : Addr) (fd : FuncData) (F : Fun K "__init__" "NoBack.__init__" s_NoBack___init__ fI fd) : FnOk P w K mg base CX0 1 fI fd ["self", "name"] (spErr "name" CN) ∧ Binds K fd ["self", "name"] [] := by
  refine ⟨F.ok sc_NoBackD_initD (fun vs H Q E h => ?_) (fun cdv A outer s H vs Q E hr h => ?_), F.binds (fun _ _ _ _ _ _ us hl => match us, hl with | [_, _], _ => rfl)⟩
  · obtain ⟨_, _, rfl, _⟩ := h
    rfl
  · obtain ⟨a, v, rfl, ha, k⟩ := h
    exact ⟨_, PSs.nox (pss_one (ps_put (pv 0) (pv 1))), _, rfl, _, rfl, a, _, rfl, TN.1.o, TN.2, .inl ⟨ha, k⟩⟩
abbrev s_NoMirror___init__ : Stmt := inClass (top 17) 0
theorem sc_NoMirrorD_initD : FnScope ["self", "name"] ["self", "name"] (defScope s_NoMirror___init__) := ⟨rfl, rfl, rfl, by decide +kernel, rfl, by decide +kernel, by decide +kernel⟩
theorem ok_nomirror (TM : NoC K mg "NoMirror" CM s_NoMirror___init__ "NoMirror.__init__") (fI : Addr) (fd : FuncData) (F : Fun K "__init__" "NoMirror.__init__" s_NoMirror___init__ fI fd) : FnOk P w K mg base CX0 1 fI fd ["self", "name"] (spErr "name" CM) ∧ Binds K fd ["self", "name"] [] := by
  refine ⟨F.ok sc_NoMirrorD_initD (fun vs H Q E h => ?_) (fun cdv A outer s H vs Q E hr h => ?_), F.binds (fun _ _ _ _ _ _ us hl => match us, hl with | [_, _], _ => rfl)⟩
  · obtain ⟨_, _, rfl, _⟩ := h
    rfl
  · obtain ⟨a, v, rfl, ha, k⟩ := h
    exact ⟨_, PSs.nox (pss_one (ps_put (pv 0) (pv 1))), _, rfl, _, rfl, a, _, rfl, TM.1.o, TM.2, .inl ⟨ha, k⟩⟩
theorem m_turnedX (B : Blts mg) (U : BookT K mg CB) (T : KindT K mg C Cs) (TN : NoC K mg "NoBack" CN s_NoBack___init__ "NoBack.__init__") (F : MethAt K CB "turned" "Book.turned" s_Book_turned) (p1 : PK' P w K mg base C "name" fun r => .str r.name) (p4 : PK' P w K mg base C "back" fun r => ov r.back) (m_kinds_of : HasM P w K mg base CB "_kinds_of" 2 ["self", "word"] (spKindsOf CB C)) : HasMX P w K mg base CB "turned" 3 ["self", "word"] (spBackX CB C CN Row.back) := by
  refine hasMX_of F sc_Book_turned (fun _ _ _ _ _ _ us hl => match us, hl with | [_, _], _ => rfl) (fun vs H Q E h => ?_) (fun f cdv A outer s H vs Q E hr h => ?_)
  · obtain ⟨_, _, _, _, _, rfl, _⟩ := h
    rfl
  · obtain ⟨a, l, rs, qs, us, rfl, hb, hl, hw, k, kE⟩ := h
    obtain ⟨dx, _, _, _, _, ha, _⟩ := id hb
    refine ⟨_, (pss_cons (ps_set (i := 2) sc_Book_turned.nd rfl (Or.inl rfl) (pe_hasM m_kinds_of U.cl (hr.mono (by decide)) (pv 0) (pa_cons (pv 1) pa_nil)))
      (pss_cons (ps_for (passes_of rfl) rfl (pi_list (pv 2)) (pg_name (i := 3) sc_Book_turned.nd rfl (Or.inl rfl))
        (pss_one (ps_if (pt_cmpR op_isN (pe_hasP p4 T.cl (hr.mono (by decide)) (pv 3)) pe_non (by first | exact nomark _ | rfl)) (pss_one (ps_raiseB rfl TN.1 (ok_noback TN) (hr.mono (by decide)) (takes_of rfl rfl rfl rfl) (by exact (pa_cons (pe_hasP p1 T.cl (hr.mono (by decide)) (pv 3)) pa_nil))))
          pss_nil)))
      (pss_one (ps_ret (pe_callTy call_tuple_of (by rfl) B.n_tuple (by decide +kernel) (pa_cons (pe_lc (own := [("kind", 3)]) rfl sc_Book_turned.nd (pi_list (pe_revL (pv 2))) (blkOk_by (own := [("kind", 3)]) (N := ["self", "word", "kinds", "kind"]) (sc := defScope s_Book_turned) (by decide +kernel)) (fun _ _ _ _ _ => by exact (pg_name (i := 3) sc_Book_turned.nd rfl (Or.inl rfl))) (fun _ _ _ _ _ => by exact pts_nil) (fun _ _ _ _ _ => by exact (pe_hasP p4 T.cl (hr.mono (by decide)) (pv 3)))) pa_nil)))))), ?_⟩
    refine ⟨_, rfl, a, dx, _, rfl, ha, rfl, _, rfl, a, l, rs, qs, us, rfl, hb, hl, hw, fun q ps H1 nq hq hp s1 => ?_⟩
    refine next_of ?_
    dsimp only
    have len := paired_len hp
    have h240 := hw.1
    refine ⟨_, rfl, q, rfl, ⟨_, SqL.of hq⟩, for_list (K := K) (a := q) (xs := ps.map V.ref) (fun j σ H' => ∃ v3 : Option V, σ = [some (.ref a), some (.ref l), some (.ref q), v3] ∧ H' = H1 ∧ ∀ (i : Nat) (v : Row), i < j → us[i]? = some v → v.back ≠ none) ⟨none, rfl, rfl, fun _ _ z => absurd z (Nat.not_lt_zero _)⟩ (fun j σ H' _ h => ?_) (fun j x σ H' hx h => ?_) (fun σ H' h => ?_)⟩
    · obtain ⟨_, _, rfl, _⟩ := h
      exact SqL.of hq
    · obtain ⟨v3, rfl, rfl, sofar⟩ := h
      obtain ⟨b, hbx, rfl⟩ := map_at hx
      obtain ⟨u, hu, kb⟩ := paired_get hp hbx
      obtain ⟨db, hb'⟩ := id kb
      refine ⟨_, rfl, b, db, _, rfl, hb', b, u, rfl, kb, ?_⟩
      refine ⟨rfl, _, rfl, ite2 (fun c => ?_) (fun c => ?_)⟩
      · have none_ : u.back = none := by
          cases e : u.back with
          | none => rfl
          | some z => exact absurd (c.symm.trans (isN_some (by rw [e]; simp))) (by decide)
        exact ⟨_, rfl, b, db, _, rfl, hb', b, u, rfl, kb, _, rfl, fun d nd => kE j u hu none_ sofar d _ (s1.trans (Same.new nd)) upd_same⟩
      · refine ⟨_, rfl, rfl, fun i v hi hv => ?_⟩
        rcases Nat.lt_succ_iff_lt_or_eq.mp hi with z | z
        · exact sofar i v z hv
        · subst z
          rw [hu] at hv
          cases hv
          exact fun z => c (by show decide (ov u.back = V.non) = true; rw [z]; rfl)
    · obtain ⟨v3, rfl, rfl, sofar⟩ := h
      have all_ : ∀ u ∈ us, u.back ≠ none := fun u hu => by
        obtain ⟨i, hi⟩ := List.getElem?_of_mem hu
        have li := (List.getElem?_eq_some_iff.mp hi).1
        exact sofar i u (by rw [List.length_map]; omega) hi
      refine next_of ?_
      dsimp only
      refine ⟨_, rfl, q, ps.map V.ref, rfl, SqL.of hq, fun r nr => ⟨r, rfl, ⟨_, SqL.of upd_same⟩, fun D nD => lc_map walk_list (gAt us.reverse fun u => ov u.back) nD (by rw [List.length_reverse, List.length_map]; omega) (fun H' s' => SqL.of (s' _ _ upd_same)) ?_ ?_⟩⟩
      · rintro i x H2 H3 hi s2 ⟨rfl, hx⟩ R hR
        rw [← List.map_reverse] at hx
        obtain ⟨b, hbx, rfl⟩ := map_at hx
        obtain ⟨u, hu, kb⟩ := paired_get (paired_rev hp) hbx
        have kb2 := (kb.same (Same.new nr)).same s2
        obtain ⟨db, hb'⟩ := id kb2
        have qq := hR H3 (Same.refl _)
        rw [gAt, hu] at qq
        exact ⟨rfl, _, rfl, b, db, _, rfl, hb', b, u, rfl, kb2, qq⟩
      · intro H2 s2 hD
        have lr : (ps.map V.ref).reverse.length = us.reverse.length := by rw [List.length_reverse, List.length_map, List.length_reverse, len]
        rw [lr, gAt_all] at hD
        refine ⟨D, _, rfl, .inl ⟨SqL.of hD, fun z nz => ?_⟩⟩
        have s3 : Same H H2 := (s1.trans (Same.new nr)).trans s2
        have nz0 : H z = none := by
          cases e : H z with
          | none => rfl
          | some o => rw [s3 _ _ e] at nz; cases nz
        exact k all_ z _ nz0 upd_same (s3.trans (Same.new nz))
theorem m_mirroredX (B : Blts mg) (U : BookT K mg CB) (T : KindT K mg C Cs) (TM : NoC K mg "NoMirror" CM s_NoMirror___init__ "NoMirror.__init__") (F : MethAt K CB "mirrored" "Book.mirrored" s_Book_mirrored) (p1 : PK' P w K mg base C "name" fun r => .str r.name) (p5 : PK' P w K mg base C "mirror" fun r => ov r.mirror) (m_kinds_of : HasM P w K mg base CB "_kinds_of" 2 ["self", "word"] (spKindsOf CB C)) : HasMX P w K mg base CB "mirrored" 3 ["self", "word"] (spBackX CB C CM Row.mirror) := by
  refine hasMX_of F sc_Book_mirrored (fun _ _ _ _ _ _ us hl => match us, hl with | [_, _], _ => rfl) (fun vs H Q E h => ?_) (fun f cdv A outer s H vs Q E hr h => ?_)
  · obtain ⟨_, _, _, _, _, rfl, _⟩ := h
    rfl
  · obtain ⟨a, l, rs, qs, us, rfl, hb, hl, hw, k, kE⟩ := h
    obtain ⟨dx, _, _, _, _, ha, _⟩ := id hb
    refine ⟨_, (pss_cons (ps_set (i := 2) sc_Book_mirrored.nd rfl (Or.inl rfl) (pe_hasM m_kinds_of U.cl (hr.mono (by decide)) (pv 0) (pa_cons (pv 1) pa_nil)))
      (pss_cons (ps_for (passes_of rfl) rfl (pi_list (pv 2)) (pg_name (i := 3) sc_Book_mirrored.nd rfl (Or.inl rfl))
        (pss_one (ps_if (pt_cmpR op_isN (pe_hasP p5 T.cl (hr.mono (by decide)) (pv 3)) pe_non (by first | exact nomark _ | rfl)) (pss_one (ps_raiseB rfl TM.1 (ok_nomirror TM) (hr.mono (by decide)) (takes_of rfl rfl rfl rfl) (by exact (pa_cons (pe_hasP p1 T.cl (hr.mono (by decide)) (pv 3)) pa_nil))))
          pss_nil)))
      (pss_one (ps_ret (pe_callTy call_tuple_of (by rfl) B.n_tuple (by decide +kernel) (pa_cons (pe_lc (own := [("kind", 3)]) rfl sc_Book_mirrored.nd (pi_list (pe_revL (pv 2))) (blkOk_by (own := [("kind", 3)]) (N := ["self", "word", "kinds", "kind"]) (sc := defScope s_Book_mirrored) (by decide +kernel)) (fun _ _ _ _ _ => by exact (pg_name (i := 3) sc_Book_mirrored.nd rfl (Or.inl rfl))) (fun _ _ _ _ _ => by exact pts_nil) (fun _ _ _ _ _ => by exact (pe_hasP p5 T.cl (hr.mono (by decide)) (pv 3)))) pa_nil)))))), ?_⟩
    refine ⟨_, rfl, a, dx, _, rfl, ha, rfl, _, rfl, a, l, rs, qs, us, rfl, hb, hl, hw, fun q ps H1 nq hq hp s1 => ?_⟩
    refine next_of ?_
    dsimp only
    have len := paired_len hp
    have h240 := hw.1
    refine ⟨_, rfl, q, rfl, ⟨_, SqL.of hq⟩, for_list (K := K) (a := q) (xs := ps.map V.ref) (fun j σ H' => ∃ v3 : Option V, σ = [some (.ref a), some (.ref l), some (.ref q), v3] ∧ H' = H1 ∧ ∀ (i : Nat) (v : Row), i < j → us[i]? = some v → v.mirror ≠ none) ⟨none, rfl, rfl, fun _ _ z => absurd z (Nat.not_lt_zero _)⟩ (fun j σ H' _ h => ?_) (fun j x σ H' hx h => ?_) (fun σ H' h => ?_)⟩
    · obtain ⟨_, _, rfl, _⟩ := h
      exact SqL.of hq
    · obtain ⟨v3, rfl, rfl, sofar⟩ := h
      obtain ⟨b, hbx, rfl⟩ := map_at hx
      obtain ⟨u, hu, kb⟩ := paired_get hp hbx
      obtain ⟨db, hb'⟩ := id kb
      refine ⟨_, rfl, b, db, _, rfl, hb', b, u, rfl, kb, ?_⟩
      refine ⟨rfl, _, rfl, ite2 (fun c => ?_) (fun c => ?_)⟩
      · have none_ : u.mirror = none := by
          cases e : u.mirror with
          | none => rfl
          | some z => exact absurd (c.symm.trans (isN_some (by rw [e]; simp))) (by decide)
        exact ⟨_, rfl, b, db, _, rfl, hb', b, u, rfl, kb, _, rfl, fun d nd => kE j u hu none_ sofar d _ (s1.trans (Same.new nd)) upd_same⟩
      · refine ⟨_, rfl, rfl, fun i v hi hv => ?_⟩
        rcases Nat.lt_succ_iff_lt_or_eq.mp hi with z | z
        · exact sofar i v z hv
        · subst z
          rw [hu] at hv
          cases hv
          exact fun z => c (by show decide (ov u.mirror = V.non) = true; rw [z]; rfl)
    · obtain ⟨v3, rfl, rfl, sofar⟩ := h
      have all_ : ∀ u ∈ us, u.mirror ≠ none := fun u hu => by
        obtain ⟨i, hi⟩ := List.getElem?_of_mem hu
        have li := (List.getElem?_eq_some_iff.mp hi).1
        exact sofar i u (by rw [List.length_map]; omega) hi
      refine next_of ?_
      dsimp only
      refine ⟨_, rfl, q, ps.map V.ref, rfl, SqL.of hq, fun r nr => ⟨r, rfl, ⟨_, SqL.of upd_same⟩, fun D nD => lc_map walk_list (gAt us.reverse fun u => ov u.mirror) nD (by rw [List.length_reverse, List.length_map]; omega) (fun H' s' => SqL.of (s' _ _ upd_same)) ?_ ?_⟩⟩
      · rintro i x H2 H3 hi s2 ⟨rfl, hx⟩ R hR
        rw [← List.map_reverse] at hx
        obtain ⟨b, hbx, rfl⟩ := map_at hx
        obtain ⟨u, hu, kb⟩ := paired_get (paired_rev hp) hbx
        have kb2 := (kb.same (Same.new nr)).same s2
        obtain ⟨db, hb'⟩ := id kb2
        have qq := hR H3 (Same.refl _)
        rw [gAt, hu] at qq
        exact ⟨rfl, _, rfl, b, db, _, rfl, hb', b, u, rfl, kb2, qq⟩
      · intro H2 s2 hD
        have lr : (ps.map V.ref).reverse.length = us.reverse.length := by rw [List.length_reverse, List.length_map, List.length_reverse, len]
        rw [lr, gAt_all] at hD
        refine ⟨D, _, rfl, .inl ⟨SqL.of hD, fun z nz => ?_⟩⟩
        have s3 : Same H H2 := (s1.trans (Same.new nr)).trans s2
        have nz0 : H z = none := by
          cases e : H z with
          | none => rfl
          | some o => rw [s3 _ _ e] at nz; cases nz
        exact k all_ z _ nz0 upd_same (s3.trans (Same.new nz))
end
end N

set_option maxHeartbeats 4000000
/-! sorted(t, key=f), t a tuple -/
namespace SrtT
open PySem PySem.W PySem.Calls PyProof.Rows
section
variable {prog : Program} {w : World} {A : Around} {E : Value → Shared → Prop} {s : Shared} {β : Type} {R : Value → β → Prop}
def TupOf (h : Heap) (l : Addr) (vs : List Value) : Prop := ∃ (o : Obj) (n : Nat), h.get? l = some o ∧ o.cls = .type "tuple" ∧ o.data = .seq vs.toArray n
/-- a tuple's items, gathered -/
theorem gather {l : Addr} {vs : List Value} {Q : List Value → Shared → Prop} (hl : TupOf s.heap l vs) (z : vs.length ≤ sizeLine)
    (h : Q vs { s with heap := (s.heap.push (seqObj "list" #[] 0)).update s.heap.objs.size (Obj.mapSeq (· ++ vs.toArray)) }) : wpAny (model prog w) A (collect (.ref l)) Q E s := by
  obtain ⟨o, n, e1, e2, e3⟩ := hl
  have e1' := Heap.get?_push_of_some (seqObj "list" #[] 0) e1
  have eN : (s.heap.push (seqObj "list" #[] 0)).get? s.heap.objs.size = some (seqObj "list" #[] 0) := Heap.get?_push_size _ rfl
  unfold collect
  refine wpAny_bind (wpAny_runValue (codeAny_builtin F.entry_proto_collect ?_))
  rw [Around.under_plainId F.plain_proto_collect _]
  show wpAny _ A.in1 (newList [] >>= fun y => again (.builtin "list.__iadd__" ⟨[y, .ref l], []⟩)) _ _ s
  refine wpAny_bind (wpAny_newObj_type (wpAny_pure ⟨plainId_quiet F.plain_list_iadd _, codeAny_builtin F.entry_list_iadd ?_⟩))
  rw [Around.under_plainId F.plain_list_iadd _]
  show wpAny _ A.in1 (Builtin.List.listExtendWith (.ref s.heap.objs.size) (.ref l) (.ref s.heap.objs.size)) _ _ _
  have ext := wpAny_extend_seq (prog := prog) (w := w) (A := A) (s := { s with heap := s.heap.push (seqObj "list" #[] 0) }) (R := fun r s' => r = .ok (.ret (.ref s.heap.objs.size)) ∧ s' = { s with heap := (s.heap.push (seqObj "list" #[] 0)).update s.heap.objs.size (Obj.mapSeq (· ++ vs.toArray)) })
    s.heap.objs.size l (.ref s.heap.objs.size) 0 (.inr rfl) eN e1' e2 e3 ⟨rfl, rfl⟩ (by rw [List.size_toArray]; exact z)
  refine wpAny_mono ext (fun fin s' q => ?_) fun e s' q => absurd q.1 (by simp)
  cases fin with
  | done f =>
    obtain ⟨q1, rfl⟩ := q
    cases q1
    have eU := get?_update_seq eN (· ++ vs.toArray)
    refine wpAny_bind (wpAny_load eU ?_)
    show wpAny _ _ (pure ((#[] : Array Value) ++ vs.toArray).toList) _ _ _
    refine wpAny_pure ?_
    rw [show ((#[] : Array Value) ++ vs.toArray).toList = vs by simp]
    exact h
  | again c' =>
    refine ⟨q.1, codeAny_mono q.2 fun r s'' hq => ?_⟩
    obtain ⟨rfl, rfl⟩ := hq
    have eU := get?_update_seq eN (· ++ vs.toArray)
    refine wpAny_bind (wpAny_load eU ?_)
    show wpAny _ _ (pure ((#[] : Array Value) ++ vs.toArray).toList) _ _ _
    refine wpAny_pure ?_
    rw [show ((#[] : Array Value) ++ vs.toArray).toList = vs by simp]
    exact h
/-- sorted(t, ..) over a tuple's items -/
theorem sortedT {l : Addr} {vs : List Value} {kw : List (Str × Value)} {Q : Value → Shared → Prop} (hl : TupOf s.heap l vs) (z : vs.length ≤ sizeLine) (g1 : argsOk "sorted" ⟨[.ref l], kw⟩) (g2 : ∀ x, argsOk "list.sort" ⟨[.ref x], kw⟩)
    (go : ∀ E' : Value → Shared → Prop, wpAny (model prog w) A.in1.in1 (Builtin.«list.sort» ⟨[.ref (s.heap.objs.size + 1)], kw⟩) (fun f s' => f = .done (.ret .none) ∧ Q (.ref (s.heap.objs.size + 1)) s') E' { s with heap := copyHeap s.heap vs }) :
    wpAny (model prog w) A (call (.builtin "sorted") [.ref l] kw) Q E s := by
  refine call_function_entry_kw kind_sorted plain_sorted entry_sorted g1 ?_
  have e : ((s.heap.push (seqObj "list" #[] 0)).update s.heap.objs.size (Obj.mapSeq (· ++ vs.toArray))).objs.size = s.heap.objs.size + 1 := by rw [Heap.size_update, size_push']
  unfold Builtin.«sorted»
  refine wpAny_bind (m := checkCount "sorted" 1 1 _) (wpAny_pure (wpAny_bind (gather hl z (wpAny_bind (wpAny_newList ?_ z)))))
  show wpAny _ _ _ _ _ { s with heap := copyHeap s.heap vs }
  rw [e]
  refine wpAny_bind (wpAny_holding (wpAny_call_entry_kw slot_list_sort ⟨_, copyHeap_at s.heap vs, rfl⟩ entry_list_sort ?_ (g2 _)))
  refine wpAny_mono (go _) (fun f s' q => ?_) fun _ _ q => q
  obtain ⟨rfl, q⟩ := q
  exact ⟨_, rfl, wpAny_pure ⟨_, rfl, q⟩⟩
/-- sorted(t, key=f): f keeps all that stands and tells each item's key -/
theorem sortedT_key {l : Addr} {vs : List Value} {bs : List β} {f : Value} {kw : List (Str × Value)} {b : Bool} {Q : Value → Shared → Prop} (k : β → PyData) (hl : TupOf s.heap l vs) (each : EachIs R vs bs) (al : AllAlike (bs.map k)) (so : Sortable (bs.map k)) (z : bs.length ≤ sizeLine)
    (dp : ∀ x, x ∈ bs → A.units + 2 + (k x).depth < cLine) (g1 : argsOk "sorted" ⟨[.ref l], kw⟩) (g2 : ∀ x, argsOk "list.sort" ⟨[.ref x], kw⟩) (tr : ∀ x, Builtin.«list.sort» ⟨[.ref x], kw⟩ = ksk_tree x f b)
    (one : ∀ (v : Value) (x : β), R v x → x ∈ bs → ∀ (g : Heap) (tk : Nat), (∀ c o, s.heap.get? c = some o → g.get? c = some o) →
      wpAny (model prog w) A.in1.in1 (call f [v]) (KeyPure (k x) { s with heap := g, toks := tk }) (fun _ _ => False) { s with heap := g, toks := tk })
    (fin : ∀ out c g tk, (∀ c o, s.heap.get? c = some o → g.get? c = some o) → s.heap.get? (s.heap.objs.size + 1) = none → g.get? (s.heap.objs.size + 1) = some (seqObj "list" (List.toArray out) c) → out.length = bs.length → EachIs R out (bs.mergeSort (dataLe b k)) →
      Q (.ref (s.heap.objs.size + 1)) { s with heap := g, toks := tk }) : wpAny (model prog w) A (call (.builtin "sorted") [.ref l] kw) Q E s := by
  have nw : s.heap.get? (s.heap.objs.size + 1) = none := Heap.get?_none_of_le (Nat.le_succ _)
  have vz : vs.length ≤ sizeLine := by rw [each.length]; exact z
  have ml : (bs.map k).length = vs.length := (List.length_map _).trans each.length.symm
  have old : ∀ {g : Heap}, KeepsBut (s.heap.objs.size + 1) (copyHeap s.heap vs) g → ∀ c o, s.heap.get? c = some o → g.get? c = some o := fun {g} kp c o q => kp c o (Nat.ne_of_lt (Nat.lt_succ_of_lt (Heap.lt_size q))) (copyHeap_old q)
  refine sortedT hl vz g1 g2 fun E' => ?_
  rw [tr]
  have turns := keyH_turns (prog := prog) (w := w) (A := A.in1.in1) (s := { s with heap := copyHeap s.heap vs }) (a := s.heap.objs.size + 1) (f := f) (k := k) (h₁ := copyHeap s.heap vs) each fun v x r hx g tk kp => one v x r hx g tk (old kp)
  exact keyH_tree (s := { s with heap := copyHeap s.heap vs }) (copyHeap_at s.heap vs) ml vz al so (bound_map (A := A.in1.in1) dp) turns fun g tk out c kp hD ko => ⟨rfl, fin out c g tk (old kp) nw hD ((ko.length ml).trans each.length) (keyedOut_each k ko each)⟩
end
end SrtT

set_option maxHeartbeats 4000000
/-! sorted(t, key=lambda x: x.m), m a property of own objects: the turn -/
namespace L2
open PySem PySem.Spec PyProof.Rows
theorem ObjM.keeps {h h' : Heap} {x dx C : Addr} {mA : Str → Option Value} (I : ObjM h x dx C mA) (k : ∀ b o, h.get? b = some o → h'.get? b = some o) : ObjM h' x dx C mA := ⟨k _ _ I.obj, I.ns.keeps k, I.ne⟩
section
variable {P : Program} {w : World} {A : Around} {E : Value → Shared → Prop} {R : Result → Shared → Prop} {s : Shared} {K : PySem.W.Frag} {a dx C : Addr} {mA : Str → Option Value}
/-- the getter `return self.fld`, called -/
theorem turn_getter {g : Addr} {name qual fld : Str} {gp : Arguments} {gsc : Scope} {dV kV doc pm cdv ct oc : Value} {an od : Option Addr} {osl : Array (Option Value)} {q1 q2 q3 : Pos} {nm : Str} {t : Tok}
    (hroom : A.depth < recursionLimit) (X : K.In s.heap) (nl : s.heap.NoLimit) (c : Cls K C) (O : ObjM s.heap a dx C mA)
    (lk : K.lookup g = some ⟨oc, od, .func (PySem.W.fnOf name qual gp [.Return (some (.Attribute (.Name "self" q1) fld q2)) q3] gsc dV kV doc pm an cdv ct), osl⟩) (hcd : PySem.W.codeIn K cdv qual = true) (S : FnScope ["self"] ["self"] gsc)
    (hl : gsc.names.lookup ("self" : Str) = some NameKind.local) (hc : ∀ x ∈ gsc.names, x.2 ≠ .cell)
    (hb : bindArgs (PySem.W.fnOf name qual gp [.Return (some (.Attribute (.Name "self" q1) fld q2)) q3] gsc dV kV doc pm an cdv ct) ⟨[Value.ref a], []⟩ = pure [(("self" : Str), Value.ref a)])
    (nf : NoAttr K C fld) (hv : mA fld = some (.str nm t))
    (h : ∀ h' tk, (∀ b o, s.heap.get? b = some o → h'.get? b = some o) → R (.ok (.ret (.str nm t))) { s with heap := h', toks := tk }) :
    codeAny (model P w) A (.call (.ref g) ⟨[.ref a], []⟩) R s := by
  refine codeAny_call_function hroom (X _ _ lk) rfl S.co S.gen rfl (PySem.W.codeRec_of X hcd) ?_
  rw [hb]
  refine wpAny_pure (wpAny_newFunctionEnv hc (fun y hy => ?_) (fun h₁ hns hsb => ⟨nl.fresh _ hsb, codeAny_func (wpAny_execs_cons (wpAny_Return_some ?_))⟩) S.kind)
  · cases hy with
    | head => exact hl
    | tail _ z => cases z
  · have kp : ∀ b o, s.heap.get? b = some o → h₁.get? b = some o := fun b o e => hsb.extBut b o (Nat.ne_of_lt (Heap.lt_size e)) (Heap.get?_push_of_some _ e)
    refine attr_of rfl (wpAny_Name (wpAny_loadName_local S.kind (by exact hl) hns (v := .ref a) rfl ?_))
    exact get_map (s := { s with heap := h₁, toks := _ }) (X.keeps kp) (O.keeps kp) (c.get fld) c.hd nf hv rfl (h h₁ _ kp)

/-- the lambda `x: x.m` called, m a property with such a getter -/
theorem turn_lam {Q : Value → Shared → Prop} {f c' p g : Addr} {q : Str} {x m name qual fld : Str} {lp gp : Arguments} {lsc gsc : Scope} {cl : List (Str × Addr)} {pm ctv dV kV doc gpm cdv ct oc : Value} {an od : Option Addr} {osl : Array (Option Value)} {p1 p2 q1 q2 q3 : Pos} {nm : Str} {t : Tok}
    (hroom : A.depth + 1 < recursionLimit) (X : K.In s.heap) (nl : s.heap.NoLimit) (c : Cls K C) (O : ObjM s.heap a dx C mA)
    (hf : s.heap.get? f = some (PySem.W.kla_obj "<lambda>" q lp (.Attribute (.Name x p1) m p2) lsc cl pm c' ctv)) (hcr : s.heap.CodeRec (.ref c') q)
    (hco : lsc.isCoroutine = false) (hge : lsc.isGenerator = false) (hk : lsc.kind = .function) (hxl : lsc.names.lookup x = some NameKind.local) (hlc : ∀ y ∈ lsc.names, y.2 ≠ .cell)
    (hlb : bindArgs (PySem.W.kla_fn "<lambda>" q lp (.Attribute (.Name x p1) m p2) lsc cl pm (.ref c') ctv) ⟨[Value.ref a], []⟩ = pure [(x, Value.ref a)]) (hdb : (x == ("__debug__" : Str)) = false)
    (hp : PropOf K C m p g)
    (lk : K.lookup g = some ⟨oc, od, .func (PySem.W.fnOf name qual gp [.Return (some (.Attribute (.Name "self" q1) fld q2)) q3] gsc dV kV doc gpm an cdv ct), osl⟩) (hcd : PySem.W.codeIn K cdv qual = true) (S : FnScope ["self"] ["self"] gsc)
    (hl : gsc.names.lookup ("self" : Str) = some NameKind.local) (hc : ∀ x ∈ gsc.names, x.2 ≠ .cell)
    (hb : bindArgs (PySem.W.fnOf name qual gp [.Return (some (.Attribute (.Name "self" q1) fld q2)) q3] gsc dV kV doc gpm an cdv ct) ⟨[Value.ref a], []⟩ = pure [(("self" : Str), Value.ref a)])
    (nf : NoAttr K C fld) (hv : mA fld = some (.str nm t))
    (h : ∀ h' tk, (∀ b o, s.heap.get? b = some o → h'.get? b = some o) → Q (.str nm t) { s with heap := h', toks := tk }) :
    wpAny (model P w) A (call (.ref f) [.ref a]) Q E s := by
  refine wpAny_call (PySem.W.kla_callFunE (by omega) hf rfl hco hge rfl hcr ?_)
  rw [hlb]
  refine wpAny_pure (wpAny_newFunctionEnv hlc (fun y hy => ?_) (fun h₁ hns hsb => ⟨nl.fresh _ hsb, PySem.W.kla_codeExpr ?_⟩) hk)
  · cases hy with
    | head => exact hxl
    | tail _ z => cases z
  · have kp : ∀ b o, s.heap.get? b = some o → h₁.get? b = some o := fun b o e => hsb.extBut b o (Nat.ne_of_lt (Heap.lt_size e)) (Heap.get?_push_of_some _ e)
    refine attr_of rfl (wpAny_Name (wpAny_loadName_local hk (by exact hxl) hns (v := .ref a) (by simp) ?_) hdb)
    obtain ⟨od', J, _⟩ := (O.keeps kp).look
    obtain ⟨rest, hrec⟩ := hp.rec_
    have hcl : (PySem.W.clsIn K C).isSome = true := by
      obtain ⟨cd, hc, _⟩ := PySem.W.any_some c.hd
      rw [hc]
      rfl
    have X1 := X.keeps kp
    refine PySem.W.get_bind (s := { s with heap := h₁, toks := _ }) X1 J (PySem.W.plainGet_of (c.get m)).1 (PySem.W.findObj_data hcl hp.at_ hp.get hp.tak) (PySem.W.plainGet_of (c.get m)).2 (wpAny_call (PySem.W.prop_get (s := { s with heap := h₁, toks := _ }) X1 hrec ?_))
    refine turn_getter (s := { s with heap := h₁, toks := _ }) (by exact hroom) X1 (nl.fresh _ hsb) c (O.keeps kp) lk hcd S hl hc hb nf hv fun h' tk k2 => ?_
    show wpAny _ _ (handedOut _) _ _ _
    rw [PySem.W.handedOut_of rfl]
    exact wpAny_pure (h h' tk fun b o e => k2 b o (kp b o e))
end
end L2

set_option maxHeartbeats 4000000
namespace L2
open PySem PySem.Spec PyProof.Rows
/-- by the names -/
def leName (a b : Addr × Str) : Bool := decide (a.2.cps.toList ≤ b.2.cps.toList)
/-- sorted(t, key=lambda x: x.m): the own objects of the tuple at t, each with its name -/
def tSrtLam (C : Addr) (fld : Str) (T : List (Addr × Str)) (ta : TE) : TE := fun σ H Q => ta σ H fun v H1 => ∃ (t : Addr) (bs : List (Addr × Str)), v = .ref t ∧ H1 t = some (.tup (bs.map fun b => V.ref b.1)) ∧ bs.length ≤ 1000 ∧ LamX.Tabs T H1 ∧
  (∀ b ∈ bs, ∃ dx fs, H1 b.1 = some (.ins C dx fs) ∧ fs.lookup fld = some (.str b.2)) ∧
  ∀ H2 D, LamX.ExtN H1 H2 → LamX.Tabs T H2 → H2 D = none → Q (.ref D) (upd H2 D (.lst ((bs.mergeSort leName).map fun b => V.ref b.1)))
theorem each_refs : ∀ {bs : List (Addr × Str)} {us : List Value}, Vals (bs.map fun b => V.ref b.1) us → PySem.W.EachIs (fun (v : Value) (b : Addr × Str) => v = .ref b.1) us bs
  | [], _, .nil => .nil
  | _ :: _, _, .cons r rs => .cons r (each_refs rs)
theorem refs_each : ∀ {bs : List (Addr × Str)} {us : List Value}, PySem.W.EachIs (fun (v : Value) (b : Addr × Str) => v = .ref b.1) us bs → Vals (bs.map fun b => V.ref b.1) us
  | [], _, .nil => .nil
  | _ :: _, _, .cons r rs => .cons r (refs_each rs)
theorem pe_sortedLam {X : Cx} {e : Expr} {ta : TE} {T : List (Addr × Str)} {C P0 c p g : Addr} {k : Nat} {x m name qual fld : Str} {lp gp : Arguments} {lsc gsc : Scope} {dV kV doc gpm cdv ct oc : Value} {an od : Option Addr} {osl : Array (Option Value)} {cp np p1 p2 q1 q2 q3 lpos kpos : Pos}
    (hg : Gl X "sorted") (hm : X.mg "sorted" = none) (ha : PE X e ta)
    (TB : LamX.TabB X.base X.mg c P0) (hcode : X.env.code = .ref c) (hmT : (P0, X.env.qual ++ "<lambda>") ∈ T) (hu : ∀ p ∈ T, p.1 = P0 → p.2 = X.env.qual ++ "<lambda>") (hdef : defaultsOf lp X.env = ([], [])) (hr : Room (k + 2) X.A)
    (hco : lsc.isCoroutine = false) (hge : lsc.isGenerator = false) (hk : lsc.kind = .function) (hxl : lsc.names.lookup x = some NameKind.local) (hlc : ∀ y ∈ lsc.names, y.2 ≠ .cell) (hlf : ∀ y ∈ lsc.names, y.2 ≠ .free)
    (hlb : ∀ (a : Addr) (q : Str) (cl : List (Str × Addr)) (pm cv ctv : Value), bindArgs (PySem.W.kla_fn "<lambda>" q lp (.Attribute (.Name x p1) m p2) lsc cl pm cv ctv) ⟨[Value.ref a], []⟩ = pure [(x, Value.ref a)]) (hdb : (x == ("__debug__" : Str)) = false)
    (cl : Cls X.K C) (hp : PropOf X.K C m p g)
    (lk : X.K.lookup g = some ⟨oc, od, .func (PySem.W.fnOf name qual gp [.Return (some (.Attribute (.Name "self" q1) fld q2)) q3] gsc dV kV doc gpm an cdv ct), osl⟩) (hcd : PySem.W.codeIn X.K cdv qual = true) (S : FnScope ["self"] ["self"] gsc)
    (hl : gsc.names.lookup ("self" : Str) = some NameKind.local) (hc : ∀ x ∈ gsc.names, x.2 ≠ .cell)
    (hb : ∀ a : Addr, bindArgs (PySem.W.fnOf name qual gp [.Return (some (.Attribute (.Name "self" q1) fld q2)) q3] gsc dV kV doc gpm an cdv ct) ⟨[Value.ref a], []⟩ = pure [(("self" : Str), Value.ref a)])
    (nf : NoAttr X.K C fld)
    (he : backTo cp (starEach [e] X.env) = (false, eval e X.env) :: backTo cp (starEach [] X.env) := by rfl) (hpl : (backTo cp (starEach [e] X.env)).any (·.1) = false := by rfl) :
    PE X (.Call (.Name "sorted" np) [e] [⟨some "key", .Lambda lp (.Attribute (.Name x p1) m p2) lsc lpos, kpos⟩] cp) (tSrtLam C fld T ta) := by
  have hbs : bootBuiltins ("sorted" : Str) = some (.builtin "sorted") := by decide +kernel
  refine ⟨fun pins s σ H Q I h => ?_⟩
  refine wpAny_Call_Name_kw (ld_blt I hg hm hbs ?_ (by decide) (by decide))
  refine PyProof.Rows.callWith_kw ?_ he hpl rfl rfl
  rw [he]
  refine Calls.spliced_cons (thn (ha.run pins s σ H _ I h) fun u s1 ⟨v, H1, I1, rv, t, bs, ev, ht, hn, hT, hbs2, q1⟩ => Calls.spliced_nil ?_)
  subst ev
  obtain rfl : u = Value.ref t := rv
  refine kwAll_cons (LamX.lam_make2 I1 TB hcode hmT hu hT hdef (fun y hy e => absurd e (hlf y hy)) fun f c' pm ctv H2 s2 I2 eN T2 hf hfn hfr hco2 => kwAll_nil ?_)
  show wpAny (model X.prog X.w) X.A (call (.builtin "sorted") [.ref t] [(Str.ofString "key", .ref f)]) _ _ s2
  have ht2 : H2 t = some (.tup (bs.map fun b => V.ref b.1)) := eN _ _ ht (fun ps z => by cases z)
  obtain ⟨hz, its, rvs, hT3⟩ := I2.hok t _ ht2
  have eL : its.toArray.toList = its := by simp
  obtain ⟨⟨oc', vs', tq', hoc, hdc, hvc⟩, _, _⟩ := I2.hok c' _ hco2
  have hd := hr.dp
  have hu2 := hr.un
  refine SrtT.sortedT_key (b := false) (R := fun v b => v = .ref b.1) (fun b : Addr × Str => PyData.str b.2) (vs := its) ?tt (each_refs rvs) (PySem.W.AllAlike.of fun _ _ => by simp [PySem.W.alike]) (PySem.W.Sortable.others fun _ => ⟨by simp, by simp⟩) (by rw [sizeLine_eq]; omega)
    (fun b _ => by show X.A.units + 2 + 0 < _; omega) (PyProof.Rows.ksk_s1 _ _) (fun _ => PyProof.Rows.ksk_l1 _ _) (fun _ => PyProof.Rows.ksk_t1 _ _) (fun v b ev hb3 g0 tk kp => ?turn) (fun out c0 g0 tk kp nw hD hlen hE => ?fin)
  case tt =>
    obtain ⟨o, ho, hcl, n, hdt⟩ := hT3
    exact ⟨o, n, ho, hcl, hdt⟩
  case turn =>
    subst ev
    obtain ⟨dx, fs, ei, el⟩ := hbs2 b hb3
    obtain ⟨mA, O, r, _, _, _⟩ := ins_get I2.hok (eN _ _ ei (fun ps z => by cases z))
    obtain ⟨u, hu3, ru⟩ := RelO.some_of (v := .str b.2) (o := mA fld) (by rw [← el]; exact r fld)
    obtain ⟨tu, rfl⟩ : ∃ tu, u = Value.str b.2 tu := ru
    refine turn_lam (s := { s2 with heap := g0, toks := tk }) (by show X.A.depth + 1 < _; omega) (I2.kIn.keeps kp) (I2.nolimit.keeps kp) cl (O.keeps kp) (kp _ _ hf) ⟨c', oc', vs', tq', rfl, kp _ _ hoc, hdc, hvc⟩ hco hge hk hxl hlc (hlb _ _ _ _ _ _) hdb hp lk hcd S hl hc (hb _) nf hu3 fun h' tk2 k2 => ?_
    exact ⟨h', tk2, rfl, k2, .str _ _⟩
  case fin =>
    rw [PySem.W.dataLe_str] at hE
    have rv2 := refs_each hE
    refine ⟨.ref _, upd H2 (s2.heap.objs.size + 1) (.lst ((bs.mergeSort leName).map fun b => V.ref b.1)), I2.laid (t' := tk) kp (Nat.le_succ _) ⟨by rw [List.length_map, List.length_mergeSort, sizeLine_eq]; omega, out, c0, rv2, hD⟩, rfl, q1 H2 _ eN T2 (I2.hok.fresh (Nat.le_succ _))⟩
end L2

set_option maxHeartbeats 4000000
namespace N
open PySem L2
/-! ### Book(k1, k2, ..) -/
structure InitAtC (K : PySem.W.Frag) (CB : Addr) (qual : Str) (st : Stmt) (c : Addr) : Prop where
  ex : ∃ (f : Addr) (oc : Value) (od : Option Addr) (kV doc pm : Value) (an : Option Addr) (ct : Value) (osl : Array (Option Value)), Mk K CB f ∧
    K.lookup f = some ⟨oc, od, .func (PySem.W.fnOf "__init__" qual (defArgs st) (defBody st) (defScope st) .none kV doc pm an (.ref c) ct), osl⟩ ∧ PySem.W.codeIn K (.ref c) qual = true
/-- all but the tables and b's object stay -/
def Nb (b : Addr) (H H' : Hp) : Prop := ∀ a o, a ≠ b → H a = some o → (∀ ps, o ≠ .tbl ps) → H' a = some o
def rowsSorted (rs : List Row) : List Row := rs.mergeSort fun x y => decide (x.name.cps.toList ≤ y.name.cps.toList)
def spBInit (CB C : Addr) (T : List (Addr × Str)) : Sp := fun vs H Q _ => ∃ (b dx t : Addr) (as : List Addr) (rs : List Row), vs = [.ref b, .ref t] ∧ H b = some (.ins CB dx []) ∧ H t = some (.tup (as.map V.ref)) ∧ Paired (KindAt C H) as rs ∧ FitOk rs ∧ (rs.map (·.name)).Nodup ∧
  as ≠ [] ∧ as.length ≤ 24 ∧ LamX.Tabs T H ∧ ∀ H', Nb b H H' → LamX.Tabs T H' → BookAt CB C H' b rs (rowsSorted rs) → Q .non H'
def nmOf (p : Addr × Row) : Addr × Str := (p.1, p.2.name)
def srt (zs : List (Addr × Row)) : List (Addr × Row) := zs.mergeSort fun x y => leName (nmOf x) (nmOf y)
theorem zip_fst {α β : Type} : ∀ {as : List α} {bs : List β}, as.length = bs.length → (as.zip bs).map Prod.fst = as
  | [], [], _ => rfl
  | a :: as, b :: bs, h => congrArg (List.cons a) (zip_fst (Nat.succ.inj h))
theorem zip_snd {α β : Type} : ∀ {as : List α} {bs : List β}, as.length = bs.length → (as.zip bs).map Prod.snd = bs
  | [], [], _ => rfl
  | a :: as, b :: bs, h => congrArg (List.cons b) (zip_snd (Nat.succ.inj h))
theorem zip_all {α β : Type} {F : α → β → Prop} : ∀ {as : List α} {bs : List β}, Paired F as bs → ∀ p ∈ as.zip bs, F p.1 p.2
  | _, _, .nil, _, h => nomatch h
  | _, _, .cons x y, p, h => by
    rcases List.mem_cons.mp h with e | h
    · subst e
      exact x
    · exact zip_all y p h
theorem paired_fs {α β : Type} {F : α → β → Prop} : ∀ {ls : List (α × β)}, (∀ p ∈ ls, F p.1 p.2) → Paired F (ls.map Prod.fst) (ls.map Prod.snd)
  | [], _ => .nil
  | _ :: _, h => .cons (h _ (.head _)) (paired_fs fun u hu => h u (.tail _ hu))
theorem zs_refs {as : List Addr} {rs : List Row} (h : as.length = rs.length) : ((as.zip rs).map nmOf).map (fun b => V.ref b.1) = as.map V.ref := by
  rw [List.map_map, show ((fun b : Addr × Str => V.ref b.1) ∘ nmOf) = V.ref ∘ (Prod.fst : Addr × Row → Addr) from rfl, ← List.map_map, zip_fst h]
theorem srt_refs (zs : List (Addr × Row)) : ((zs.map nmOf).mergeSort leName).map (fun b => V.ref b.1) = ((srt zs).map Prod.fst).map V.ref := by
  rw [srt, ← List.map_mergeSort (r := fun x y => leName (nmOf x) (nmOf y)) (s := leName) (f := nmOf) (fun _ _ _ _ => rfl), List.map_map, List.map_map]
  rfl
theorem srt_rows {as : List Addr} {rs : List Row} (h : as.length = rs.length) : (srt (as.zip rs)).map Prod.snd = rowsSorted rs := by
  rw [srt, List.map_mergeSort (r := fun x y => leName (nmOf x) (nmOf y)) (s := fun x y : Row => decide (x.name.cps.toList ≤ y.name.cps.toList)) (f := Prod.snd) (fun _ _ _ _ => rfl), zip_snd h]
  rfl
theorem KindAt.nb {C : Addr} {H H' : Hp} {a b : Addr} {r : Row} (h : KindAt C H a r) (hab : a ≠ b) (e : Nb b H H') : KindAt C H' a r := let ⟨dx, h⟩ := h; ⟨dx, e _ _ hab h (fun ps z => by cases z)⟩
theorem tabs_nb {T : List (Addr × Str)} {H H' : Hp} {b C dx : Addr} {fs : List (Str × V)} (h : LamX.Tabs T H) (hb : H b = some (.ins C dx fs)) (e : ∀ a o, a ≠ b → H a = some o → H' a = some o) : LamX.Tabs T H' := fun p hp => by
  obtain ⟨ps, h1, h2, h3⟩ := h p hp
  refine ⟨ps, e _ _ (fun z => ?_) h1, h2, fun pos cv hc => ?_⟩
  · rw [z, hb] at h1
    cases h1
  · obtain ⟨c, e1, e2⟩ := h3 pos cv hc
    refine ⟨c, e1, e _ _ (fun z => ?_) e2⟩
    rw [z, hb] at e2
    unfold LamX.CodeO at e2
    cases e2
section
variable {P : Program} {w : World} {K : PySem.W.Frag} {mg : Str → Option Value} {base : Heap} {C CB : Addr} {Cs : Nat → Addr}
abbrev s_Book___init__ : Stmt := inClass (top 27) 0
theorem sc_BookD_initD : FnScope ["self", "kinds", "kind"] ["self", "kinds"] (defScope s_Book___init__) := ⟨rfl, rfl, rfl, by decide +kernel, rfl, by decide +kernel, by decide +kernel⟩
theorem b_init {c P0 : Addr} {T : List (Addr × Str)} (B : Blts mg) (KT : KindT K mg C Cs) (U : BookT K mg CB) (g_MK : ∃ t, mg "_MOST_KINDS" = some (.int 24 t)) (FI : InitAtC K CB "Book.__init__" s_Book___init__ c) (FN : PropAt K C "name" "Kind.name" s_Kind_name)
    (p1 : PK' P w K mg base C "name" fun r => .str r.name) (TB : LamX.TabB base mg c P0) (hmT : (P0, ("Book.__init__" : Str) ++ ".<locals>." ++ "<lambda>") ∈ T) (hu : ∀ p ∈ T, p.1 = P0 → p.2 = ("Book.__init__" : Str) ++ ".<locals>." ++ "<lambda>")
    (h_check_kinds : Has P w K mg base "_check_kinds" 5 ["kinds"] (spCheck K C)) :
    ∃ f, Mk K CB f ∧ FnR P w K mg base CX0 6 f (fun vs H Q E => ∃ ws rest, vs = ws ++ rest ∧ ws.length = (["self"] : List Str).length ∧ rest.length ≤ sizeLine ∧ ∀ p, H p = Option.none → spBInit CB C T (ws ++ [V.ref p]) (upd H p (.tup rest)) Q E) := by
  obtain ⟨f, oc, od, kV, doc, pm, an, ct, osl, M, lk, hcd⟩ := FI.ex
  obtain ⟨pn, gn, fdn, hpn, Fn⟩ := FN.ex
  obtain ⟨ocn, odn, kVn, docn, pmn, ann, cdvn, ctn, osln, rfl, lkn, hcdn⟩ := Fn.ex
  obtain ⟨_, g_MOST_KINDS⟩ := g_MK
  refine ⟨f, M, StX.fn_star (ps := ["self"]) (pv := "kinds") (N := ["self", "kinds", "kind"]) lk hcd sc_BookD_initD StX.cxUp_none (StX.bind_star1 (B := fun us => bindArgs (PySem.W.fnOf "__init__" "Book.__init__" (defArgs s_Book___init__) (defBody s_Book___init__) (defScope s_Book___init__) .none kV doc pm an (.ref c) ct) ⟨us, []⟩) (fun a => rfl) (fun a r rs => rfl)) (fun A outer s H vs Q E hr h => ?_)⟩
  obtain ⟨b, dx, t, as, rs, ev, hb, ht, hk, part, nd, hne, h24, hT, k⟩ := h
  have go : ∃ t', PSs (cxOf CX0 P w K mg base ["self", "kinds", "kind"] "Book.__init__" (defScope s_Book___init__) f (.ref c) A outer s H E).nox (defBody s_Book___init__) t' ∧ t' { nx := fun _ H' => Q .non H', rt := Q } (start ["self", "kinds", "kind"] vs) H := by
    subst ev
    refine ⟨_, (pss_cons (ps_for PassesOwn.never rfl (pi_tup (pv 1)) (pg_name (i := 2) sc_BookD_initD.nd rfl (Or.inl rfl))
        (pss_one (ps_if (pt_not (pt_val (pe_callB (call_isiF K) (by rfl) B.n_isinstance (by decide +kernel) (pa_cons (pv 2) (pa_cons (pe_glob (v := .ref C) rfl KT.g rfl) pa_nil))))) (pss_one ps_never)
          pss_nil)))
      (pss_cons (ps_if (pt_cmpR op_gt (pe_callB call_len (by rfl) B.n_len PySem.boot_len (pa_cons (pv 1) pa_nil)) (pe_glob (v := .int 24) rfl g_MOST_KINDS ⟨_, rfl⟩) (by first | exact nomark _ | rfl)) (pss_one ps_never)
        pss_nil)
      (pss_cons (ps_if (pt_not (pt_truth (pv 1) (by intro _; rfl))) (pss_one ps_never)
        pss_nil)
      (pss_cons (ps_expr (pe_has h_check_kinds (hr.mono (by decide)) (pa_cons (pv 1) pa_nil)))
      (pss_cons (ps_fld (pv 0) (pe_callTy call_tuple_of (by rfl) B.n_tuple (by decide +kernel) (pa_cons (pe_sortedLam (k := 0) (T := T) (by rfl) B.n_sorted (pv 1) TB rfl hmT hu rfl (hr.mono (by decide)) rfl rfl rfl rfl (by decide +kernel) (by decide +kernel) (fun _ _ _ _ _ _ => rfl) (by decide) KT.cl hpn lkn hcdn sc_Kind_name rfl (by decide +kernel) (fun _ => rfl) KT.n0) pa_nil)) rfl)
      (pss_one (ps_fld (pv 0) (pe_dc (own := [("kind", 2)]) rfl sc_BookD_initD.nd (pi_tup (pv 1)) (blkOk_by (own := [("kind", 2)]) (N := ["self", "kinds", "kind"]) (sc := defScope s_Book___init__) (by decide +kernel)) (fun _ _ _ _ _ => by exact (pg_name (i := 2) sc_BookD_initD.nd rfl (Or.inl rfl))) (fun _ _ _ _ _ => by exact pts_nil) (fun _ _ _ _ _ => by exact (pe_hasP p1 KT.cl (hr.mono (by decide)) (pv 2))) (fun _ _ _ _ _ => by exact (pv 2))) rfl))))))), ?_⟩
    have KS : SqT K H t (as.map V.ref) := SqT.of ht
    have len := paired_len hk
    refine ⟨_, rfl, t, rfl, ⟨as.map V.ref, KS⟩, for_tup (K := K) (a := t) (xs := as.map V.ref) (fun i σ H' => ∃ v : Option V, σ = [some (.ref b), some (.ref t), v] ∧ Same H H') ⟨none, rfl, Same.refl _⟩ (fun i σ H' _ ⟨_, _, e⟩ => e.st KS) ?_ ?_⟩
    · rintro i x σ H' hx ⟨v, rfl, e⟩
      obtain ⟨a, ha, rfl⟩ := map_at hx
      obtain ⟨r, hr', ka⟩ := paired_get hk ha
      obtain ⟨da, ka'⟩ := ka.same e
      exact ⟨_, rfl, _, _, _, _, true, rfl, .own C, KT.own.ty ka', kit_self, true, rfl, iteF ⟨_, rfl, e⟩⟩
    · rintro σ H1 ⟨v, rfl, e1⟩
      refine ⟨_, rfl, _, as.length, rfl, .inr ⟨_, e1.st KS, (List.length_map _).symm⟩, _, _, rfl, rfl, _, rfl, ite2 (fun c => absurd (of_decide_eq_true c) (by omega)) (fun _ => ?_)⟩
      refine next_of ?_
      dsimp only
      refine ⟨_, rfl, true, .inr (.inl ⟨_, e1.st KS, ?_⟩), iteF ?_⟩
      · cases as with
        | nil => exact absurd rfl hne
        | cons _ _ => rfl
      refine next_of ?_
      dsimp only
      refine ⟨_, rfl, t, as, rs, rfl, e1.st KS, L2.Paired.mapP hk fun _ _ q => q.same e1, part, nd, by omega, fun H2 e2 => ?_⟩
      dsimp only
      have e12 := e1.trans e2
      have hb2 := e12 _ _ hb
      have kne : ∀ p ∈ as.zip rs, p.1 ≠ b := fun p hp z => by
        obtain ⟨d', q⟩ := zip_all hk p hp
        rw [z, hb] at q
        have z := congrArg (fun o => match o with | some (HO.ins _ _ fs) => fs.length | _ => 0) q
        cases (z : (0 : Nat) = 6)
      have aux : ∀ {H3 : Hp} {D l : Addr} {o : HO}, LamX.ExtN H2 H3 → H3 D = none → (upd H3 D o) l = none → H3 b = some (.ins CB dx []) ∧ b ≠ D ∧ l ≠ D ∧ H3 l = none ∧ b ≠ l := fun {H3 D l o} eN3 nD nl => by
        have hb3 : H3 b = some (.ins CB dx []) := eN3 _ _ hb2 (fun ps z => by cases z)
        have lD : l ≠ D := fun z => by
          rw [z, upd_same] at nl
          cases nl
        have nl3 : H3 l = none := by
          rw [upd_ne lD] at nl
          exact nl
        exact ⟨hb3, ne_of_none hb3 nD, lD, nl3, ne_of_none hb3 nl3⟩
      refine ⟨_, rfl, t, (as.zip rs).map nmOf, rfl, ?tup, ?len, ?tabs, ?own, fun H3 D eN3 hT3 nD => ⟨D, _, rfl, .inl ⟨SqL.of upd_same, fun l nl => ⟨_, rfl, b, CB, dx, [], rfl, ?hb4, U.cl, U.nk, by decide, ?_⟩⟩⟩⟩
      case tup =>
        rw [zs_refs len]
        exact e12 _ _ ht
      case len =>
        rw [List.length_map, List.length_zip]
        omega
      case tabs => exact fun p hp => (hT p hp).ext e12
      case own =>
        intro y hy
        obtain ⟨p, hp, rfl⟩ := List.mem_map.mp hy
        obtain ⟨d', q⟩ := zip_all hk p hp
        exact ⟨d', _, e12 _ _ q, rfl⟩
      case hb4 =>
        obtain ⟨hb3, bD, lD, nl3, bl⟩ := aux eN3 nD nl
        rw [upd_ne bl, upd_ne bD]
        exact hb3
      obtain ⟨hb3, bD, lD, nl3, bl⟩ := aux eN3 nD nl
      refine next_of ?_
      dsimp only
      have bt : t ≠ b := fun z => by
        rw [z, hb] at ht
        cases ht
      have H3t : H3 t = some (.tup (as.map V.ref)) := eN3 _ _ (e12 _ _ ht) (fun ps z => by cases z)
      have tD : t ≠ D := ne_of_none H3t nD
      have tl : t ≠ l := ne_of_none H3t nl3
      -- what of H stands in the heap behind self._kinds
      generalize hH5 : upd (upd (upd H3 D (.lst _)) l (.tup _)) b (.ins CB dx _) = H5
      have old : ∀ a o, a ≠ b → H3 a = some o → H5 a = some o := fun a o hab e => by
        rw [← hH5, upd_ne hab, upd_ne (ne_of_none e nl3), upd_ne (ne_of_none e nD)]
        exact e
      have nb5 : Nb b H H5 := fun a o hab e n => old _ _ hab (eN3 _ _ (e12 _ _ e) n)
      have H5b : H5 b = some (.ins CB dx [("_kinds", .ref l)]) := by
        rw [← hH5, upd_same]
        rfl
      have H5l : H5 l = some (.tup (((srt (as.zip rs)).map Prod.fst).map V.ref)) := by
        rw [← hH5, upd_ne (Ne.symm bl), upd_same, srt_refs]
      have K5 : SqT K H5 t (as.map V.ref) := SqT.of (old _ _ bt H3t)
      have hk5 : Paired (KindAt C H5) as rs := by
        have q := paired_fs (F := KindAt C H5) (ls := as.zip rs) fun p hp => (zip_all hk p hp).nb (kne p hp) nb5
        rw [zip_fst len, zip_snd len] at q
        exact q
      have T5 : LamX.Tabs T H5 := tabs_nb hT3 hb3 old
      refine ⟨_, rfl, t, rfl, ⟨as.map V.ref, K5⟩, fun D2 nD2 => dc_tup (K := K) (a := t) (xs := as.map V.ref) (fun i H' => H' D2 = some (.dK (tab (as.take i) (rs.take i))) ∧ Same H5 H') ⟨by rw [upd_same]; rfl, Same.new nD2⟩ (fun i H' _ ⟨_, e⟩ => e.st K5) ?_ ?_⟩
      · rintro i x H' hx ⟨hd, e⟩
        obtain ⟨a, ha, rfl⟩ := map_at hx
        obtain ⟨r, hr', ka⟩ := paired_get hk5 ha
        obtain ⟨da, ka'⟩ := ka.same e
        refine ⟨rfl, _, rfl, a, da, _, rfl, ka', a, r, rfl, ka.same e, ?_⟩
        refine ⟨_, rfl, _, .inr r.name, rfl, hd, ?_, ?_, fun c o hc => (upd_ne (ne_of_none hc nD2)).trans (e c o hc)⟩
        · refine Nat.lt_of_le_of_lt tab_len ?_
          rw [List.length_take, sizeLine_eq]
          omega
        · rw [upd_same, putK_new _ (tab_no nd hr'), tab_snoc ha hr']
      · rintro H' ⟨hd, e⟩
        refine ⟨_, rfl, b, CB, dx, _, rfl, e _ _ H5b, U.cl, U.nt, by show 1 < 1000; decide, ?_⟩
        rw [List.length_map, List.take_length, len, List.take_length] at hd
        have hb' := e _ _ H5b
        have bD2 : b ≠ D2 := ne_of_none H5b nD2
        have up : ∀ {o : HO} a u, a ≠ b → H' a = some u → (upd H' b o) a = some u := fun {o} a u hab q => by
          rw [upd_ne hab]
          exact q
        refine k _ (fun a o hab q n => up _ _ hab (e _ _ (nb5 a o hab q n))) (tabs_nb (fun p hp => (T5 p hp).ext e) hb' fun a o hab q => up a o hab q) ⟨dx, l, D2, as, (srt (as.zip rs)).map Prod.fst, upd_same, up _ _ (Ne.symm bl) (e _ _ H5l), ?_, up _ _ (Ne.symm bD2) hd, ?_, nd⟩
        · rw [← srt_rows len]
          exact paired_fs fun p hp => by
            have hp' := List.mem_mergeSort.mp hp
            obtain ⟨d', q⟩ := (zip_all hk p hp').nb (kne p hp') nb5
            exact ⟨d', up _ _ (kne p hp') (e _ _ q)⟩
        · have q := paired_fs (F := KindAt C _) (ls := as.zip rs) fun p hp => by
            obtain ⟨d', q⟩ := (zip_all hk p hp).nb (kne p hp) nb5
            exact ⟨d', up (o := .ins CB dx (putF "_table" (.ref D2) [("_kinds", .ref l)])) _ _ (kne p hp) (e _ _ q)⟩
          rw [zip_fst len, zip_snd len] at q
          exact q
  obtain ⟨t', ht', hq'⟩ := go
  exact ⟨t', ht'.nox, hq'⟩
end
end N

set_option maxHeartbeats 4000000
namespace N
open PySem L2
theorem made_same {H H' : Hp} {x dx C : Addr} (hx : H x = none) (hd : H dx = none) (e : But x (upd (upd H dx (.own x)) x (.ins C dx [])) H') : Same H H' := fun b o h => by
  have n1 : b ≠ x := ne_of_none h hx
  have n2 : b ≠ dx := ne_of_none h hd
  exact e b o (by rw [upd_ne n1, upd_ne n2]; exact h) n1
theorem made_odd {H : Hp} {x dx C : Addr} (hx : H x = none) (hd : H dx = none) (ne : dx ≠ x) : Same H (upd (upd H dx (.own x)) x (.ins C dx [])) := (Same.new hd).trans (Same.new (by rw [upd_ne ne.symm]; exact hx))
theorem ten_names : ∀ s ∈ ten, NameOk s := by decide +kernel
theorem shapes_ok : ∀ p ∈ shapes, (0 ≤ p.1 ∧ p.1 ≤ 6) ∧ (0 ≤ p.2 ∧ p.2 ≤ 6) ∧ ¬ (p.1 = 0 ∧ p.2 = 0) := by decide +kernel
theorem BookOk.nameOk {both : Bool} {rs : List Row} (h : BookOk both rs) {r : Row} (hr : r ∈ rs) : NameOk r.name := ten_names _ (h.names.mem_iff.mp (List.mem_map_of_mem hr))
theorem BookOk.kind {both : Bool} {rs : List Row} (h : BookOk both rs) {r : Row} (hr : r ∈ rs) : KindOk r := by
  obtain ⟨a, b, c⟩ := shapes_ok _ (h.part.shape r hr)
  obtain ⟨y0, y1⟩ := h.part.yarn r hr
  refine ⟨h.nameOk hr, fun x e => ?_, fun x e => ?_, a, b, c, y0, by omega⟩
  · obtain ⟨u, hu, en, _⟩ := h.part.back r hr x e
    rw [← en]
    exact h.nameOk hu
  · obtain ⟨u, hu, en, _⟩ := h.part.mirror r hr x e
    rw [← en]
    exact h.nameOk hu
theorem BookOk.nodup {both : Bool} {rs : List Row} (h : BookOk both rs) : (rs.map (·.name)).Nodup := h.names.nodup_iff.mpr (by decide +kernel)
theorem BookOk.len {both : Bool} {rs : List Row} (h : BookOk both rs) : rs.length = 10 := by
  have e := h.names.length_eq
  rw [List.length_map] at e
  exact e
theorem ten_of {α : Type} : ∀ {l : List α}, l.length = 10 → ∃ a0 a1 a2 a3 a4 a5 a6 a7 a8 a9, l = [a0, a1, a2, a3, a4, a5, a6, a7, a8, a9]
  | [a0, a1, a2, a3, a4, a5, a6, a7, a8, a9], _ => ⟨a0, a1, a2, a3, a4, a5, a6, a7, a8, a9, rfl⟩
/-- a book of the law, told as a dict -/
def ShopAt (H : Hp) (d : Addr) (rs : List Row) : Prop := ∃ kvs, H d = some (.dK kvs) ∧ Paired (KvAt H) kvs rs
/-- ten kinds that make a book -/
structure ShelfOk (rs : List Row) : Prop where
  kind : ∀ r ∈ rs, KindOk r
  part : FitOk rs
  nodup : (rs.map (·.name)).Nodup
  len : rs.length = 10
theorem BookOk.shelf {both : Bool} {rs : List Row} (h : BookOk both rs) : ShelfOk rs := ⟨fun _ hr => h.kind hr, h.part.fit, h.nodup, h.len⟩
def spRealBook (CB C : Addr) (T : List (Addr × Str)) : Sp := fun vs H Q _ => ∃ (d : Addr) (rs : List Row), vs = [.ref d] ∧ ShopAt H d rs ∧ ShelfOk rs ∧ LamX.Tabs T H ∧
  ∀ b H', H b = none → LamX.ExtN H H' → LamX.Tabs T H' → BookAt CB C H' b rs (rowsSorted rs) → Q (.ref b) H'
section
variable {P : Program} {w : World} {K : PySem.W.Frag} {mg : Str → Option Value} {base : Heap} {C CB : Addr} {Cs : Nat → Addr}
abbrev s__law_real_book : Stmt := top 41
theorem sc__law_real_book : FnScope ["_law_book_here", "_law_some", "_law_name", "_law_row_here", "_law_one"] ["_law_book_here"] (defScope s__law_real_book) := ⟨rfl, rfl, rfl, by decide +kernel, rfl, by decide +kernel, by decide +kernel⟩
theorem h_law_real_book {T : List (Addr × Str)} {fB : Addr} (B : Blts mg) (KT : KindT K mg C Cs) (U : BookT K mg CB) (F : FunAt K mg "_law_real_book" "_law_real_book" s__law_real_book) (hKind3 : MakX P w K mg base "Kind" C 4 3 ["self", "name", "takes", "makes", "back", "mirror", "yarn"] ["back", "mirror", "yarn"] (spKind C Cs) (fun vs zs => vs ++ zs))
    (MB : Mk K CB fB) (FB : FnR P w K mg base CX0 6 fB (fun vs H Q E => ∃ ws rest, vs = ws ++ rest ∧ ws.length = (["self"] : List Str).length ∧ rest.length ≤ sizeLine ∧ ∀ p, H p = Option.none → spBInit CB C T (ws ++ [V.ref p]) (upd H p (.tup rest)) Q E)) :
    Has P w K mg base "_law_real_book" 8 ["_law_book_here"] (spRealBook CB C T) := by
  refine has_of F sc__law_real_book (fun _ _ _ _ _ _ us hl => match us, hl with | [_], _ => rfl) (fun vs H Q E h => ?_) (fun f cdv A outer s H vs Q E hr h => ?_)
  · obtain ⟨d, rs, rfl, _⟩ := h
    rfl
  · obtain ⟨d, rs, rfl, ⟨kvs, hd, hkv⟩, ok, hT, k⟩ := h
    refine ⟨_, (pss_cons (ps_set (i := 1) sc__law_real_book.nd rfl (Or.inl rfl) (pe_lst pa_nil))
      (pss_cons (ps_lock (ps_for PassesOwn.never rfl (pi_items (pv 0)) (pg_tup rfl (pgs_cons (pg_name (i := 2) sc__law_real_book.nd rfl (Or.inl rfl)) (pgs_cons (pg_name (i := 3) sc__law_real_book.nd rfl (Or.inl rfl)) pgs_nil)))
        (pss_one (ps_expr (pe_bm PySem.F.plainAttrs_list PySem.F.slot_list_append PySem.F.type_list_append mt_append (pv 1) (pa_cons (pe_makX hKind3 (hr.mono (by decide)) passL (pa_cons (pv 2) (pa_cons (pe_ix ix_tup (pv 3) pe_int (fun _ _ => rfl)) (pa_cons (pe_ix ix_tup (pv 3) pe_int (fun _ _ => rfl)) pa_nil))) (pk_cons (pe_ix ix_tup (pv 3) pe_int (fun _ _ => rfl)) (pk_cons (pe_ix ix_tup (pv 3) pe_int (fun _ _ => rfl)) (pk_cons (pe_ix ix_tup (pv 3) pe_int (fun _ _ => rfl)) pk_nil)))) pa_nil))))))
      (pss_cons (ps_set (i := 4) sc__law_real_book.nd rfl (Or.inl rfl) (pe_slice sl_list (pv 1) (po_some pe_int) po_none))
      (pss_one (ps_ret (StX.pe_makeR MB FB (hr.mono (by decide)) rfl U.g pass0 (pa_cons (pe_ix ix_list (pv 1) pe_int (fun _ _ => rfl)) (pa_cons (pe_ix ix_list (pv 1) pe_int (fun _ _ => rfl)) (pa_cons (pe_ix ix_list (pv 1) pe_int (fun _ _ => rfl)) (pa_cons (pe_ix ix_list (pv 1) pe_int (fun _ _ => rfl)) (pa_cons (pe_ix ix_list (pv 1) pe_int (fun _ _ => rfl)) (pa_cons (pe_ix ix_list (pv 4) pe_int (fun _ _ => rfl)) (pa_cons (pe_ix ix_list (pv 4) pe_int (fun _ _ => rfl)) (pa_cons (pe_ix ix_list (pv 4) pe_int (fun _ _ => rfl)) (pa_cons (pe_ix ix_list (pv 4) pe_int (fun _ _ => rfl)) (pa_cons (pe_ix ix_list (pv 4) pe_int (fun _ _ => rfl)) pa_nil)))))))))))))))), ?_⟩
    refine ⟨by decide, fun q nq => ?_⟩
    refine next_of ?_
    dsimp only
    have dq : d ≠ q := ne_of_none hd nq
    let H0 : Hp := upd H q (.lst [])
    have hd0 : H0 d = some (.dK kvs) := (upd_ne dq).trans hd
    have len : kvs.length = rs.length := paired_len hkv
    refine ⟨d, .dK kvs, hd0, trivial, fun od => ?_⟩
    let Hl : Hp := upd H0 d (.frz od (.dK kvs))
    have hlk : Paired (KvAt Hl) kvs rs := paired_imp (fun _ _ ⟨a, e, ra⟩ => ⟨a, e, by
      have h1 : H a = some (.tup _) := ra
      have n1 : a ≠ d := fun z => by
        rw [z, hd] at h1
        cases h1
      have n2 : a ≠ q := ne_of_none h1 nq
      show upd (upd H q _) d _ a = _
      rw [upd_ne n1, upd_ne n2]
      exact h1⟩) hkv
    refine ⟨_, rfl, d, od, kvs, rfl, upd_same, for_it (walk_items (d := d) (o := od) (kvs := kvs)) (fun i σ H' => ∃ (v2 v3 v4 : Option V) (as : List Addr), σ = [some (.ref d), some (.ref q), v2, v3, v4] ∧ H' q = some (.lst (as.map V.ref)) ∧ as.length = i ∧ Paired (KindAt C H') as (rs.take i) ∧ (∀ a o, a ≠ q → Hl a = some o → H' a = some o))
      ⟨none, none, none, [], rfl, (upd_ne (Ne.symm dq)).trans upd_same, rfl, .nil, fun _ _ _ e => e⟩ (fun i σ H' _ h => ?_) (fun i x σ Ha Hb hi h y => ?_) (fun σ H' h => ?_)⟩
    · obtain ⟨_, _, _, _, _, _, _, _, e⟩ := h
      exact e _ _ dq upd_same
    · obtain ⟨v2, v3, v4, as, rfl, hq, hl, hk, e⟩ := h
      obtain ⟨Tq, x1, x2, rfl, nT, rfl, f1, f2⟩ := y
      obtain ⟨r, hr', a, ekv, ra⟩ := paired_get hlk (List.getElem?_eq_getElem hi)
      replace f1 : (kvs[i]?.map fun kv => kV kv.1) = some x1 := f1
      replace f2 : kvs[i]?.map Prod.snd = some x2 := f2
      rw [List.getElem?_eq_getElem hi, ekv] at f1 f2
      cases (Option.some.inj f1 : V.str r.name = x1)
      cases (Option.some.inj f2 : V.ref a = x2)
      have okr := ok.kind _ (List.mem_of_getElem? hr')
      have nf : r.six.fault = none := Row.sound okr
      have ra' : Hl a = some (.tup [.int r.takes, .int r.makes, ov r.back, ov r.mirror, .int r.yarn]) := ra
      have aq : a ≠ q := fun z => by
        have hqq : Hl q = some (.lst []) := (upd_ne (Ne.symm dq)).trans upd_same
        rw [z, hqq] at ra'
        cases ra'
      have ha := e _ _ aq ra'
      have eT : Same Ha (upd Ha Tq (.tup [V.str r.name, V.ref a])) := Same.new nT
      have haT := eT _ _ ha
      have hqT := eT _ _ hq
      refine ⟨Tq, _, rfl, SqT.of upd_same, rfl, _, _, rfl, _, _, rfl, rfl, ?_⟩
      refine ⟨_, rfl, .inl ⟨rfl, _, SqL.of hqT⟩, _, rfl, _, rfl, _, _, 0, _, rfl, rfl, SqT.of haT, rfl, _, rfl, _, _, 1, _, rfl, rfl, SqT.of haT, rfl, _, rfl, _, _, 2, _, rfl, rfl, SqT.of haT, rfl, _, rfl, _, _, 3, _, rfl, rfl, SqT.of haT, rfl, _, rfl, _, _, 4, _, rfl, rfl, SqT.of haT, rfl, rfl, rfl, fun x dx hx hdx ne => ?_⟩
      refine ⟨x, dx, r.six, rfl, upd_same, Row.odd okr _, fun _ H3 hkx e3 => ⟨rfl, ?_⟩, fun kk v hf => (by rw [nf] at hf; cases hf)⟩
      have s3 : Same Ha H3 := eT.trans (made_same hx hdx e3)
      have hq3 := s3 _ _ hq
      have xq : x ≠ q := (ne_of_none hqT hx).symm
      refine ⟨q, _, _, rfl, rfl, hq3, by rw [List.length_map, hl, sizeLine_eq]; have := ok.len; omega, ⟨_, _, _, as ++ [x], rfl, ?_, by rw [List.length_append, hl]; rfl, ?_, ?_⟩⟩
      · rw [upd_same, List.map_append]
        rfl
      · rw [List.take_add_one, hr']
        have up : ∀ {b : Addr} {u : Row}, b ≠ q → KindAt C H3 b u → KindAt C (upd H3 q (.lst (as.map V.ref ++ [V.ref x]))) b u := fun {b u} hb ⟨db, z⟩ => ⟨db, (upd_ne hb).trans z⟩
        refine paired_app (paired_imp (fun b u z => up (fun zz => ?_) (z.same s3)) hk) (.cons (up xq ⟨dx, hkx⟩) .nil)
        obtain ⟨db, z⟩ := z
        rw [zz, hq] at z
        cases z
      · intro b o hb hh
        rw [upd_ne hb]
        exact s3 _ _ (e _ _ hb hh)
    · obtain ⟨v2, v3, v4, as, rfl, hq, hl, hk, e⟩ := h
      have l10 : as.length = 10 := by rw [hl, len, ok.len]
      rw [len, List.take_length] at hk
      have Hd := e _ _ dq upd_same
      refine ⟨Hd, ?_⟩
      have hq5 : (upd H' d (.dK kvs)) q = some (.lst (as.map V.ref)) := (upd_ne (Ne.symm dq)).trans hq
      generalize hH5 : upd H' d (.dK kvs) = H5 at hq5 ⊢
      have s5 : Same H H5 := fun b o hb => by
        have n2 : b ≠ q := ne_of_none hb nq
        rw [← hH5]
        by_cases z : b = d
        · rw [z] at hb ⊢
          rw [upd_same]
          exact hd.symm.trans hb
        · rw [upd_ne z]
          refine e _ _ n2 ?_
          show upd (upd H q _) d _ b = _
          rw [upd_ne z, upd_ne n2]
          exact hb
      have hk5 : Paired (KindAt C H5) as rs := paired_imp (fun b u ⟨db, z⟩ => ⟨db, by
        rw [← hH5]
        refine (upd_ne fun zz => ?_).trans z
        rw [zz, Hd] at z
        cases z⟩) hk
      obtain ⟨a0, a1, a2, a3, a4, a5, a6, a7, a8, a9, rfl⟩ := ten_of l10
      refine ⟨_, rfl, _, rfl, q, _, rfl, SqL.of hq5, fun b nb => ?_⟩
      refine next_of ?_
      dsimp only
      have s6 : Same H5 (upd H5 b (.lst [V.ref a5, V.ref a6, V.ref a7, V.ref a8, V.ref a9])) := Same.new nb
      have hq6 : SqL K (upd H5 b (.lst [V.ref a5, V.ref a6, V.ref a7, V.ref a8, V.ref a9])) q _ := SqL.of (s6 _ _ hq5)
      have hb6 : SqL K (upd H5 b (.lst [V.ref a5, V.ref a6, V.ref a7, V.ref a8, V.ref a9])) b _ := SqL.of upd_same
      refine ⟨_, rfl, _, _, 0, _, rfl, rfl, hq6, rfl, _, rfl, _, _, 1, _, rfl, rfl, hq6, rfl, _, rfl, _, _, 2, _, rfl, rfl, hq6, rfl, _, rfl, _, _, 3, _, rfl, rfl, hq6, rfl, _, rfl, _, _, 4, _, rfl, rfl, hq6, rfl, _, rfl, _, _, 0, _, rfl, rfl, hb6, rfl, _, rfl, _, _, 1, _, rfl, rfl, hb6, rfl, _, rfl, _, _, 2, _, rfl, rfl, hb6, rfl, _, rfl, _, _, 3, _, rfl, rfl, hb6, rfl, _, rfl, _, _, 4, _, rfl, rfl, hb6, rfl, fun x dx hx hdx ne => ?_⟩
      refine ⟨[V.ref x], [V.ref a0, V.ref a1, V.ref a2, V.ref a3, V.ref a4, V.ref a5, V.ref a6, V.ref a7, V.ref a8, V.ref a9], rfl, rfl, (by show 10 ≤ sizeLine; decide), fun t nt => ?_⟩
      have s7 := made_odd (C := CB) hx hdx ne
      have s8 := (s7.trans (Same.new (o := .tup [V.ref a0, V.ref a1, V.ref a2, V.ref a3, V.ref a4, V.ref a5, V.ref a6, V.ref a7, V.ref a8, V.ref a9]) nt))
      have s58 := s6.trans s8
      have s08 := s5.trans s58
      have nx : H x = none := by
        cases z : H x with
        | none => rfl
        | some o =>
          have hx' := (s6 _ _ (s5 _ _ z)).symm.trans hx
          cases hx'
      refine ⟨x, dx, t, [a0, a1, a2, a3, a4, a5, a6, a7, a8, a9], rs, rfl, (upd_ne (ne_of_none upd_same nt)).trans upd_same, upd_same, paired_imp (fun _ _ z => z.same s58) hk5, ok.part, ok.nodup, by simp, by show 10 ≤ 24; decide, fun p hp => (hT p hp).ext s08, fun H' nbx hT' bk => ⟨rfl, k x H' nx (fun a o ha n => nbx a o (ne_of_none ha nx) (s08 _ _ ha) n) hT' bk⟩⟩
end
end N

set_option maxHeartbeats 4000000
namespace N
open PySem L2
/-! ### words drawn from names -/
def spWord (K : PySem.W.Frag) : Sp := fun vs H Q _ => ∃ (p l : Addr) (names : List Str) (n : Int), vs = [.ref p, .ref l, .int n] ∧ Pot H p ∧ SqL K H l (names.map V.str) ∧ l ≠ p ∧ names ≠ [] ∧ names.length < 1000000 ∧ 0 ≤ n ∧ n < 1000 ∧
  ∀ (t : Addr) (ws : List Str) (H' : Hp), H t = none → H' t = some (.tup (ws.map V.str)) → (∀ x ∈ ws, x ∈ names) → (ws.length : Int) ≤ n → Pot H' p → But p H H' → Q (.ref t) H'
def selOf (f : Row → Int) (rs : List Row) (x : Str) : Int := (rs.find? fun r => decide (r.name = x)).elim 0 f
theorem kv_find {H : Hp} {x : Str} : ∀ {kvs : List (Key × V)} {rs : List Row}, Paired (KvAt H) kvs rs → x ∈ rs.map (·.name) → ∃ a r, valV kvs (.inr x) = some (.ref a) ∧ RowAt H a r ∧ rs.find? (fun r => decide (r.name = x)) = some r
  | _, _, .nil, h => nomatch h
  | _, _, .cons (b := r) ⟨a, e, ra⟩ y, h => by
    subst e
    by_cases c : r.name = x
    · exact ⟨a, r, valV_pos (congrArg Sum.inr c), ra, by rw [List.find?_cons, decide_eq_true c]⟩
    · rw [List.map_cons] at h
      rcases List.mem_cons.mp h with e | h
      · exact absurd e.symm c
      · obtain ⟨a', r', g, k, z⟩ := kv_find y h
        exact ⟨a', r', (valV_neg fun e => c (Sum.inr.inj e)).trans g, k, by rw [List.find?_cons, decide_eq_false c]; exact z⟩
theorem range_get {α β : Type} {f : α → β} {l : List α} {d : α} : (List.range l.length).map (fun i => f (l.getD i d)) = l.map f := by
  apply List.ext_getElem
  · simp
  · intro i h1 h2
    have h3 : i < l.length := by simpa using h2
    simp [List.getElem?_eq_getElem h3]
theorem strs_in {S : Str → Prop} : ∀ {ys : List V}, (∀ y ∈ ys, ∃ z, S z ∧ y = .str z) → ∃ zs : List Str, ys = zs.map V.str ∧ ∀ z ∈ zs, S z
  | [], _ => ⟨[], rfl, fun _ h => nomatch h⟩
  | y :: ys, h => by
    obtain ⟨z, hz, rfl⟩ := h y (.head _)
    obtain ⟨zs, rfl, hzs⟩ := strs_in fun y hy => h y (.tail _ hy)
    exact ⟨z :: zs, rfl, fun x hx => by
      rcases List.mem_cons.mp hx with e | hx
      · rw [e]; exact hz
      · exact hzs x hx⟩
def spSums (K : PySem.W.Frag) (f : Row → Int) : Sp := fun vs H Q _ => ∃ (d t : Addr) (kvs : List (Key × V)) (rs : List Row) (ws : List Str), vs = [.ref d, .ref t] ∧ H d = some (.dK kvs) ∧ Paired (KvAt H) kvs rs ∧ SqT K H t (ws.map V.str) ∧ ws.length < 1000000 ∧
  (∀ x ∈ ws, x ∈ rs.map (·.name)) ∧ ∀ H', Same H H' → Q (.int (ws.map (selOf f rs)).sum) H'
theorem same_keep {H H' : Hp} (s : Same H H') : KeepT H H' := fun c _ h => s c _ h
section
variable {P : Program} {w : World} {K : PySem.W.Frag} {mg : Str → Option Value} {base : Heap}
abbrev s__law_takes : Stmt := top 42
theorem sc__law_takes : FnScope ["_law_book_here", "_law_word_here", "_law_name"] ["_law_book_here", "_law_word_here"] (defScope s__law_takes) := ⟨rfl, rfl, rfl, by decide +kernel, rfl, by decide +kernel, by decide +kernel⟩
theorem h_law_takes (B : Blts mg) (F : FunAt K mg "_law_takes" "_law_takes" s__law_takes) : Has P w K mg base "_law_takes" 1 ["_law_book_here", "_law_word_here"] (spSums K (·.takes)) := by
  refine has_of F sc__law_takes (fun _ _ _ _ _ _ us hl => match us, hl with | [_, _], _ => rfl) (fun vs H Q E h => ?_) (fun f cdv A outer s H vs Q E hr h => ?_)
  · obtain ⟨_, _, _, _, _, rfl, _⟩ := h
    rfl
  · obtain ⟨d, t, kvs, rs, ws, rfl, hd, hk, ht, hz, hw, k⟩ := h
    refine ⟨_, (pss_one (ps_ret (pe_callB (cr_sum rfl) (by rfl) B.n_sum (by decide +kernel) (pa_cons (pe_lc (own := [("_law_name", 2)]) rfl sc__law_takes.nd (pi_tup (pv 1)) (blkOk_by (own := [("_law_name", 2)]) (N := ["_law_book_here", "_law_word_here", "_law_name"]) (sc := defScope s__law_takes) (by decide +kernel)) (fun _ _ _ _ _ => by exact (pg_name (i := 2) sc__law_takes.nd rfl (Or.inl rfl))) (fun _ _ _ _ _ => by exact pts_nil) (fun _ _ _ _ _ => by exact (pe_ix (ix_tupK K) (pe_dget hr.u1 (pv 0) (pv 2) (fun _ _ => rfl)) pe_int (fun _ _ => rfl)))) pa_nil)))), ?_⟩
    refine ⟨_, rfl, t, rfl, ⟨_, ht⟩, fun D nD => lc_map (walk_tup (K := K) (a := t) (xs := ws.map V.str)) (fun i => .int (selOf (·.takes) rs (ws.getD i ""))) nD (by rw [List.length_map]; exact hz) (fun H s => s.st ht) ?_ ?_⟩
    · rintro i x H1 H2 hi s1 ⟨rfl, hx⟩ R hR
      obtain ⟨z, hz', rfl⟩ := map_at hx
      obtain ⟨a, r, g, ra, fr⟩ := kv_find (hk) (hw z (List.mem_of_getElem? hz'))
      have ez : ws.getD i "" = z := by rw [List.getD_eq_getElem?_getD, hz']; rfl
      refine ⟨rfl, _, rfl, _, rfl, d, .ref a, rfl, .inl ⟨kvs, .inr z, .inl (s1 _ _ hd), rfl, g.symm⟩, a, _, 0, _, rfl, rfl, SqT.of (s1 _ _ ra), rfl, ?_⟩
      have e : selOf (·.takes) rs (ws.getD i "") = r.takes := by rw [ez]; unfold selOf; rw [fr]; rfl
      have q := hR H2 (Same.refl _)
      rw [e] at q
      exact q
    · intro H1 s1 hD
      refine ⟨D, ws.map (selOf (·.takes) rs), rfl, SqL.of ?_, k _ s1⟩
      rw [hD, List.length_map, ← range_get (f := selOf (·.takes) rs) (l := ws) (d := ""), List.map_map]
      rfl
abbrev s__law_makes : Stmt := top 43
theorem sc__law_makes : FnScope ["_law_book_here", "_law_word_here", "_law_name"] ["_law_book_here", "_law_word_here"] (defScope s__law_makes) := ⟨rfl, rfl, rfl, by decide +kernel, rfl, by decide +kernel, by decide +kernel⟩
theorem h_law_makes (B : Blts mg) (F : FunAt K mg "_law_makes" "_law_makes" s__law_makes) : Has P w K mg base "_law_makes" 1 ["_law_book_here", "_law_word_here"] (spSums K (·.makes)) := by
  refine has_of F sc__law_makes (fun _ _ _ _ _ _ us hl => match us, hl with | [_, _], _ => rfl) (fun vs H Q E h => ?_) (fun f cdv A outer s H vs Q E hr h => ?_)
  · obtain ⟨_, _, _, _, _, rfl, _⟩ := h
    rfl
  · obtain ⟨d, t, kvs, rs, ws, rfl, hd, hk, ht, hz, hw, k⟩ := h
    refine ⟨_, (pss_one (ps_ret (pe_callB (cr_sum rfl) (by rfl) B.n_sum (by decide +kernel) (pa_cons (pe_lc (own := [("_law_name", 2)]) rfl sc__law_makes.nd (pi_tup (pv 1)) (blkOk_by (own := [("_law_name", 2)]) (N := ["_law_book_here", "_law_word_here", "_law_name"]) (sc := defScope s__law_makes) (by decide +kernel)) (fun _ _ _ _ _ => by exact (pg_name (i := 2) sc__law_makes.nd rfl (Or.inl rfl))) (fun _ _ _ _ _ => by exact pts_nil) (fun _ _ _ _ _ => by exact (pe_ix (ix_tupK K) (pe_dget hr.u1 (pv 0) (pv 2) (fun _ _ => rfl)) pe_int (fun _ _ => rfl)))) pa_nil)))), ?_⟩
    refine ⟨_, rfl, t, rfl, ⟨_, ht⟩, fun D nD => lc_map (walk_tup (K := K) (a := t) (xs := ws.map V.str)) (fun i => .int (selOf (·.makes) rs (ws.getD i ""))) nD (by rw [List.length_map]; exact hz) (fun H s => s.st ht) ?_ ?_⟩
    · rintro i x H1 H2 hi s1 ⟨rfl, hx⟩ R hR
      obtain ⟨z, hz', rfl⟩ := map_at hx
      obtain ⟨a, r, g, ra, fr⟩ := kv_find (hk) (hw z (List.mem_of_getElem? hz'))
      have ez : ws.getD i "" = z := by rw [List.getD_eq_getElem?_getD, hz']; rfl
      refine ⟨rfl, _, rfl, _, rfl, d, .ref a, rfl, .inl ⟨kvs, .inr z, .inl (s1 _ _ hd), rfl, g.symm⟩, a, _, 1, _, rfl, rfl, SqT.of (s1 _ _ ra), rfl, ?_⟩
      have e : selOf (·.makes) rs (ws.getD i "") = r.makes := by rw [ez]; unfold selOf; rw [fr]; rfl
      have q := hR H2 (Same.refl _)
      rw [e] at q
      exact q
    · intro H1 s1 hD
      refine ⟨D, ws.map (selOf (·.makes) rs), rfl, SqL.of ?_, k _ s1⟩
      rw [hD, List.length_map, ← range_get (f := selOf (·.makes) rs) (l := ws) (d := ""), List.map_map]
      rfl
abbrev s__law_word : Stmt := top 44
theorem sc__law_word : FnScope ["_law_pot_here", "_law_names", "_law_most", "_law_turn"] ["_law_pot_here", "_law_names", "_law_most"] (defScope s__law_word) := ⟨rfl, rfl, rfl, by decide +kernel, rfl, by decide +kernel, by decide +kernel⟩
theorem h_law_word (B : Blts mg) (F : FunAt K mg "_law_word" "_law_word" s__law_word) (h_law_draw : Has P w K mg base "_law_draw" 1 ["_law_pot_here", "_law_many"] spDraw) (h_law_pick : Has P w K mg base "_law_pick" 2 ["_law_pot_here", "_law_some"] (spPick K)) : Has P w K mg base "_law_word" 3 ["_law_pot_here", "_law_names", "_law_most"] (spWord K) := by
  refine has_of F sc__law_word (fun _ _ _ _ _ _ us hl => match us, hl with | [_, _, _], _ => rfl) (fun vs H Q E h => ?_) (fun f cdv A outer s H vs Q E hr h => ?_)
  · obtain ⟨_, _, _, _, rfl, _⟩ := h
    rfl
  · obtain ⟨p, l, names, n, rfl, hp, hl, hlp, hne, hz, n0, n1, k⟩ := h
    refine ⟨_, (pss_one (ps_ret (pe_callTy call_tuple_of (by rfl) B.n_tuple (by decide +kernel) (pa_cons (pe_lc (own := [("_law_turn", 3)]) rfl sc__law_word.nd (pi_range1 (by rfl) B.n_range (pa_cons (pe_has h_law_draw (hr.mono (by decide)) (pa_cons (pv 0) (pa_cons (pe_op op_add (pv 2) pe_int) pa_nil))) pa_nil)) (blkOk_by (own := [("_law_turn", 3)]) (N := ["_law_pot_here", "_law_names", "_law_most", "_law_turn"]) (sc := defScope s__law_word) (by decide +kernel)) (fun _ _ _ _ _ => by exact (pg_name (i := 3) sc__law_word.nd rfl (Or.inl rfl))) (fun _ _ _ _ _ => by exact pts_nil) (fun _ _ _ _ _ => by exact (pe_has h_law_pick (hr.mono (by decide)) (pa_cons (pv 0) (pa_cons (pv 1) pa_nil))))) pa_nil)))), ?_⟩
    refine ⟨_, rfl, _, rfl, _, _, rfl, rfl, p, n + 1, rfl, hp, by omega, by omega, fun j H1 j0 j1 hp1 e1 => ⟨j, rfl, by omega, by omega, fun D nD => lc_draws (S := fun v => ∃ z, z ∈ names ∧ v = .str z) hp1 nD (by omega) (fun i H' hi hp' e' R hR => ?_) (fun ys H' hl' hy hp' e' hD => ?_)⟩⟩
    · refine ⟨rfl, _, rfl, _, rfl, p, l, names.map V.str, rfl, hp', (e1.trans e').sq hlp hl, hlp, fun z => hne (List.map_eq_nil_iff.mp z), by rw [List.length_map]; exact hz, fun v H4 hv hp4 e4 => hR v H4 ?_ hp4 e4⟩
      obtain ⟨z, hz, rfl⟩ := List.mem_map.mp hv
      exact ⟨z, hz, rfl⟩
    · obtain ⟨ws, rfl, hw⟩ := strs_in hy
      rw [List.length_map] at hl'
      refine ⟨D, ws.map V.str, rfl, .inl ⟨SqL.of hD, fun t nt => k t ws _ ((e1.trans e').free (hp'.ne nt) nt) upd_same hw (by omega) (hp'.new nt) ((e1.trans e').trans (But.new nt))⟩⟩
end
end N

set_option maxHeartbeats 4000000
/-! t[::-1], t a tuple -/
namespace HT
open PySem PySem.Spec PySem.Calls PyProof.Rows
section
variable {prog : Program} {w : World} {A : Around} {E : Value → Shared → Prop} {s : Shared}
theorem places_rev (n : Nat) : Builtin.Slice.slicePlaces ((n : Int) - 1) (-1) (-1) = n := by
  unfold Builtin.Slice.slicePlaces
  rw [if_neg (by decide)]
  by_cases h : (n : Int) - 1 > -1
  · rw [if_pos h, show (- -1 : Int) = 1 by decide, Int.ediv_one]
    omega
  · rw [if_neg h]
    omega
theorem sliceApplied_rev {sl : Addr} {vl vu vs : Value} {n : Nat} {Q : Int × Int × Nat → Shared → Prop} (hs : s.heap.IsSliceOf sl vl vu vs) (pl : IsPart vl none) (pu : IsPart vu none) (ps : IsPart vs (some (-1)))
    (h : Q ((n : Int) - 1, -1, n) s) : wpAny (model prog w) A (Builtin.Slice.sliceApplied (.ref sl) (pure (n : Int))) Q E s := by
  obtain ⟨os, hos, hcs, hds⟩ := id hs
  unfold Builtin.Slice.sliceApplied Builtin.Slice.sliceFields
  refine wpAny_bind (wpAny_bind (wpAny_field hos hds (x := vl) rfl (wpAny_bind (wpAny_field hos hds (x := vu) rfl (wpAny_bind (wpAny_field hos hds (x := vs) rfl (wpAny_pure ?_)))))))
  refine wpAny_bind (slicePart_ ps ?_)
  show wpAny _ _ (if ((-1 : Int) == 0) = true then _ else _) _ _ s
  rw [if_neg (by decide)]
  refine wpAny_bind (slicePart_ pl (wpAny_bind (slicePart_ pu (wpAny_bind (wpAny_pure ?_)))))
  show wpAny _ _ (pure ((n : Int) - 1, (-1 : Int), Builtin.Slice.slicePlaces ((n : Int) - 1) (-1) (-1))) _ _ s
  rw [places_rev]
  exact wpAny_pure h
theorem pick_rev (xs : Array Value) : ((List.range xs.size).filterMap fun (m : Nat) => xs[(((xs.size : Int) - 1) + (m : Int) * (-1)).toNat]?).toArray = xs.toList.reverse.toArray := by
  have e : (fun (m : Nat) => xs[(((xs.size : Int) - 1) + (m : Int) * (-1)).toNat]?) = (xs[·]?) ∘ fun m => xs.size - 1 - m := by
    funext m
    have : (((xs.size : Int) - 1) + (m : Int) * (-1)).toNat = xs.size - 1 - m := by omega
    rw [this] <;> rfl
  rw [e, ← List.filterMap_map, PySem.W.krv_range, List.filterMap_reverse, PySem.W.krv_all]
theorem getItem_tuple_rev {t sl : Addr} {items : Array Value} {vl vu vs : Value} {Q : Value → Shared → Prop} (ht : IsTup s.heap t items) (hs : s.heap.IsSliceOf sl vl vu vs) (pl : IsPart vl none) (pu : IsPart vu none) (ps : IsPart vs (some (-1)))
    (h : Q (.ref s.heap.objs.size) { s with heap := s.heap.push { cls := .type "tuple", data := .seq items.toList.reverse.toArray } })
    (hsz : items.size ≤ sizeLine) : wpAny (model prog w) A (getItem (.ref t) (.ref sl)) Q E s := by
  have htake : sizeOk (.seq items.toList.reverse.toArray) := by
    show items.toList.reverse.toArray.size ≤ sizeLine
    rw [List.size_toArray, List.length_reverse, Array.length_toList]
    exact hsz
  obtain ⟨os, hos, hcs, hds⟩ := id hs
  have hTs : s.TypeIs (.ref sl) "slice" := ⟨os, hos, hcs⟩
  unfold getItem
  try with_reducible refine wpAny_holding ?_
  first | refine wpAny_bind (wpAny_pure ?_) | skip
  refine wpAny_bind (wpAny_sequenceKey ht.typeIs (by decide) ?_)
  refine wpAny_bind (wpAny_callSpecial?_slot (name := Str.ofString "__getitem__") ht.typeIs PyProof.Rows.slot_tuple_getitem
    (wpAny_call_entry PyProof.Rows.slot_tuple_getitem ht.typeIs entry_tuple_getitem ?_ (args_tuple_getitem _ _)))
  show wpAny _ _ (Builtin.Tuple.tupleItemsOf (.ref t) >>= _) _ _ s
  refine wpAny_bind (tupleItemsOf_ ht ?_)
  refine wpAny_bind (wpAny_typeOf hTs ?_)
  rw [if_pos (by decide)]
  refine wpAny_bind (sliceApplied_rev hs pl pu ps ?_)
  have hno : ¬ ((((items.size : Int) - 1) == 0 && (-1 : Int) == 1 && items.size == items.size) = true) := by
    intro q
    rw [Bool.and_eq_true, Bool.and_eq_true] at q
    have q1 := q.1.2
    revert q1
    decide
  show wpAny _ _ (if (((items.size : Int) - 1) == 0 && (-1 : Int) == 1 && items.size == items.size) = true then _ else _) _ _ s
  rw [if_neg hno, pick_rev]
  first
    | exact wpAny_bind (m := Builtin.Tuple.tupleExact _) (wpAny_newObj_type (wpAny_pure ⟨_, rfl, wpAny_pure h⟩) htake)
    | exact wpAny_bind (m := Builtin.Tuple.tupleExact _) (wpAny_newObj_type (wpAny_bind (wpAny_pure (wpAny_pure ⟨_, rfl, wpAny_pure h⟩))) htake)
    | exact wpAny_bind (wpAny_bind (m := Builtin.Tuple.tupleExact _) (wpAny_newObj_type (wpAny_pure (wpAny_pure ⟨_, rfl, wpAny_pure h⟩)) htake))
    | exact wpAny_bind (wpAny_bind (m := Builtin.Tuple.tupleExact _) (wpAny_newObj_type (wpAny_pure ⟨_, rfl, wpAny_pure h⟩) htake))
end
end HT
namespace L2
open PySem PySem.Spec PyProof.Rows
section
variable {X : Cx}
def tRevT (K : PySem.W.Frag) (te : TE) : TE := fun σ H Q => te σ H fun x H1 => ∃ a xs, x = .ref a ∧ SqT K H1 a xs ∧ ∀ p, H1 p = none → Q (.ref p) (upd H1 p (.tup xs.reverse))
theorem pe_revT {e : Expr} {te : TE} {k : Nat} {p1 p2 p3 pos : Pos} (he : PE X e te) : PE X (.Subscript e (.Slice none none (some (.UnaryOp .USub (.Constant (.int 1) k p1) p2)) p3) pos) (tRevT X.K te) := by
  refine ⟨fun pins s σ H Q I h => ?_⟩
  refine Subscript_ (thn (he.run pins s σ H _ I h) fun v s1 ⟨x, H1, I1, r1, q1⟩ => ?_)
  obtain ⟨a, xs, ex, hx, q⟩ := q1
  subst ex
  cases r1
  have hst : PO X (some (.UnaryOp .USub (.Constant (.int 1) k p1) p2)) (tPart (tUn (rU fun i => .int (-i)) (tC (.int 1)))) := po_some (pe_un un_neg pe_int)
  refine wpAny_Slice (thn (po_none.run pins s1 σ H1 (fun o H2 => o = none ∧ H2 = H1) I1 ⟨rfl, rfl⟩) fun vl s2 ⟨l, H2, I2, pl, el, e2⟩ => ?_)
  subst el e2
  refine thn (po_none.run pins s2 σ H2 (fun o H3 => o = none ∧ H3 = H2) I2 ⟨rfl, rfl⟩) fun vu s3 ⟨u, H3, I3, pu, eu, e3⟩ => ?_
  subst eu e3
  refine thn (hst.run pins s3 σ H3 (fun o H4 => o = some (-1) ∧ H4 = H3) I3 ⟨1, rfl, -1, rfl, rfl, rfl⟩) fun vs s4 ⟨o, H4, I4, ps, eo, e4⟩ => ?_
  subst eo e4
  have I5 : Inv X pins σ H4 { s4 with heap := s4.heap.push { cls := .type "slice", data := .fields #[vl, vu, vs] } } := I4.kept (t' := s4.toks) fun b ob q => Heap.get?_push_of_some _ q
  obtain ⟨its, r, ht, hz⟩ := I5.tuple hx
  have hlen := r.length
  show wpAny (model X.prog X.w) X.A (subscriptTail e (.Slice none none (some (.UnaryOp .USub (.Constant (.int 1) k p1) p2)) p3) (.ref a) (.ref s4.heap.objs.size)) (EP X pins σ Q) X.xe { s4 with heap := s4.heap.push { cls := .type "slice", data := .fields #[vl, vu, vs] } }
  refine tail_any (ops := [.ref a, .ref s4.heap.objs.size]) ht.typeIs (PyProof.Rows.slot_tuple_getitem.lookup) ?_ (by with_unfolding_all rfl)
  refine HT.getItem_tuple_rev ht (Heap.IsSliceOf.new _ vl vu vs) pl pu ps ?_ (by rw [List.size_toArray]; omega)
  refine ⟨.ref _, _, I5.laid (t' := s4.toks) (o := .tup xs.reverse) (fun b ob q => Heap.get?_push_of_some _ q) (Nat.le_refl _) ?_, rfl, q _ (I5.hok.fresh (Nat.le_refl _))⟩
  refine ⟨by rw [List.length_reverse]; omega, _, r.reverse, ?_⟩
  exact IsTup.new _ _
end
end L2

set_option maxHeartbeats 4000000
namespace N
open PySem L2
theorem rows_in {rs : List Row} : ∀ {ys : List V}, (∀ y ∈ ys, ∃ u : Row, u ∈ rs ∧ y = .str u.name) → ∃ us : List Row, ys = wordV us ∧ ∀ u ∈ us, u ∈ rs
  | [], _ => ⟨[], rfl, fun _ h => nomatch h⟩
  | y :: ys, h => by
    obtain ⟨u, hu, rfl⟩ := h y (.head _)
    obtain ⟨us, rfl, hs⟩ := rows_in fun z hz => h z (.tail _ hz)
    exact ⟨u :: us, rfl, fun z hz => by
      rcases List.mem_cons.mp hz with e | hz
      · exact e ▸ hu
      · exact hs z hz⟩
theorem ShopAt.keys {H : Hp} {kvs : List (Key × V)} {rs : List Row} (hk : Paired (KvAt H) kvs rs) : kvs.map (·.1) = (rs.map (·.name)).map Sum.inr := by rw [kvs_keys hk, List.map_map]; rfl
theorem ShopAt.ne {H : Hp} {d p : Addr} {rs : List Row} (h : ShopAt H d rs) (hp : Pot H p) : d ≠ p := fun z => by
  obtain ⟨_, _, e, _⟩ := hp
  obtain ⟨kvs, hd, _⟩ := h
  subst z
  rw [hd] at e
  cases e
theorem ShopAt.but {H H' : Hp} {d p : Addr} {rs : List Row} (h : ShopAt H d rs) (hp : Pot H p) (e : But p H H') : ShopAt H' d rs := by
  have np := h.ne hp
  obtain ⟨kvs, hd, hk⟩ := h
  exact ⟨kvs, e _ _ hd np, paired_imp (fun _ _ => KvAt.keep (KeepT.but hp e)) hk⟩
theorem rep_word (u : Row) : ∀ n : Nat, (List.replicate n [V.str u.name]).flatten = wordV (List.replicate n u)
  | 0 => rfl
  | n + 1 => by
    rw [List.replicate_succ, List.flatten_cons, rep_word u n, List.replicate_succ]
    rfl
theorem lc_filt {J : It} {n : Nat} {G : Hp → Prop} {Y : Nat → Hp → V → Hp → Prop} (w : Walk J n G Y) {g : TG} {tt : TT} {te : TE} {vs : List Nat} {σ : St} {H1 : Hp} {D : Addr} {Qd : Hp → Prop} (val : Nat → V) (keep : Nat → Bool) (nD : H1 D = none) (hn : n < 1000000)
    (hG : ∀ H, Same H1 H → G H)
    (hs : ∀ i x H H', i < n → Same H1 H → Y i H x H' → ∀ (R : V → Hp → Prop) (S : Hp → Prop), (keep i = true → ∀ H4, Same H H4 → R (val i) H4) → (keep i = false → ∀ H4, Same H H4 → S H4) →
      g x (wipe σ vs) H' fun σ2 H2 => wipe σ2 vs = wipe σ vs ∧ tt σ2 H2 fun b H3 => if b = true then te σ2 H3 R else S H3)
    (hd : ∀ H, Same H1 H → H D = some (.lst (((List.range n).filter keep).map val)) → Qd H) :
    ∃ W : Nat → Nat → Hp → Prop, (∃ m, W 0 m (upd H1 D (.lst []))) ∧ ∀ i m H, W i m H →
      (J.stop i H ∧ Qd H) ∨ (J.go i H ∧ ∃ Nx : Hp → Prop, (∀ H', Nx H' → ∃ m', m' < m ∧ W (i + 1) m' H') ∧ ∀ x H', J.yld i H x H' → g x (wipe σ vs) H' fun σ2 H2 => wipe σ2 vs = wipe σ vs ∧ tt σ2 H2 fun b H3 =>
        if b = true then te σ2 H3 fun y H4 => ∃ acc, H4 D = some (.lst acc) ∧ acc.length < sizeLine ∧ Nx (upd H4 D (.lst (acc ++ [y]))) else Nx H3) := by
  refine lc_it w (fun i H => Same H1 H ∧ H D = some (.lst (((List.range i).filter keep).map val))) ⟨fun b o h => by rw [upd_ne (ne_of_none h nD)]; exact h, upd_same⟩ (fun i H _ p => hG H p.1) ?_ (fun H p => hd H p.1 p.2)
  rintro i x H H' hi ⟨p1, p2⟩ y
  refine hs i x H H' hi p1 y (fun y' H4 => ∃ acc, H4 D = some (.lst acc) ∧ acc.length < sizeLine ∧ (Same H1 (upd H4 D (.lst (acc ++ [y']))) ∧ (upd H4 D (.lst (acc ++ [y']))) D = some (.lst (((List.range (i + 1)).filter keep).map val)))) (fun H3 => Same H1 H3 ∧ H3 D = some (.lst (((List.range (i + 1)).filter keep).map val))) (fun hk H4 s4 => ?_) (fun hk H4 s4 => ?_)
  · refine ⟨_, s4 _ _ p2, ?_, (p1.trans s4).mut nD, ?_⟩
    · rw [List.length_map]
      have l1 := List.length_filter_le keep (List.range i)
      rw [List.length_range] at l1
      exact Nat.lt_of_lt_of_le (by omega : _ < 1000000) (by decide)
    · rw [upd_same, List.range_succ, List.filter_append, List.filter_cons_of_pos hk, List.map_append]
      rfl
  · refine ⟨p1.trans s4, ?_⟩
    rw [List.range_succ, List.filter_append, List.filter_cons_of_neg (by simp [hk])]
    simpa using s4 _ _ p2
/-- what stands at a place of a row: 2 its back, 3 its mirror -/
def twinOf (pl : Int) (u : Row) : Option Str := if pl = 2 then u.back else u.mirror
theorem shop_get {H : Hp} {rs : List Row} : ∀ {kvs : List (Key × V)}, Paired (KvAt H) kvs rs → (rs.map (·.name)).Nodup → ∀ u ∈ rs, ∃ a, valV kvs (.inr u.name) = some (.ref a) ∧ RowAt H a u := by
  induction rs with
  | nil => exact fun _ _ u h => nomatch h
  | cons r rs ih =>
    intro kvs h nd u hu
    cases h with
    | cons x y =>
      obtain ⟨a, e, ra⟩ := x
      subst e
      rw [List.map_cons, List.nodup_cons] at nd
      rcases List.mem_cons.mp hu with e | hu
      · subst e
        exact ⟨a, valV_pos rfl, ra⟩
      · obtain ⟨b, g, k⟩ := ih y nd.2 u hu
        refine ⟨b, ?_, k⟩
        refine Eq.trans (valV_neg fun e => nd.1 ?_) g
        have e' : r.name = u.name := Sum.inr.inj e
        rw [e']
        exact List.mem_map_of_mem hu
/-- the row of a name of the word, and where it stands -/
theorem ShopAt.row {H : Hp} {d : Addr} {rs : List Row} {both : Bool} (h : ShopAt H d rs) (ok : BookOk both rs) {u : Row} (hu : u ∈ rs) : ∃ kvs a, H d = some (.dK kvs) ∧ valV kvs (.inr u.name) = some (.ref a) ∧ RowAt H a u := by
  obtain ⟨kvs, hd, hk⟩ := h
  obtain ⟨a, g, ra⟩ := shop_get hk ok.nodup u hu
  exact ⟨kvs, a, hd, g, ra⟩
theorem ShopAt.same {H H' : Hp} {d : Addr} {rs : List Row} (h : ShopAt H d rs) (e : Same H H') : ShopAt H' d rs := by
  obtain ⟨kvs, hd, hk⟩ := h
  exact ⟨kvs, e _ _ hd, paired_imp (fun _ _ ⟨a, x, ra⟩ => ⟨a, x, e _ _ ra⟩) hk⟩
/-- the first row of a word without such a twin -/
def bareOf (pl : Int) (us : List Row) : List Row := us.filter fun u => (twinOf pl u).isNone
def awayOf (pl : Int) (us : List Row) : List V := us.reverse.map fun u => ov (twinOf pl u)
def placeName (pl : Int) : Str := if pl = 2 then "back" else "mirror"
def atD {α β : Type} (us : List α) (g : α → β) (z : β) (j : Nat) : β := match us[j]? with
  | some u => g u
  | none => z
theorem atD_some {α β : Type} {us : List α} {g : α → β} {z : β} {j : Nat} {u : α} (h : us[j]? = some u) : atD us g z j = g u := by
  unfold atD
  rw [h]
theorem atD_succ {α β : Type} (u : α) (us : List α) (g : α → β) (z : β) : (atD (u :: us) g z ∘ Nat.succ) = atD us g z := by
  funext j
  show atD (u :: us) g z (j + 1) = _
  unfold atD
  rw [List.getElem?_cons_succ]
theorem filt_range {α β : Type} (p : α → Bool) (g : α → β) (z : β) : ∀ us : List α, ((List.range us.length).filter (atD us p false)).map (atD us g z) = (us.filter p).map g
  | [] => rfl
  | u :: us => by
    have ih := filt_range p g z us
    rw [List.length_cons, List.range_succ_eq_map, List.filter_cons, List.filter_map, atD_succ]
    show List.map _ (if p u = true then _ else _) = _
    cases hp : p u with
    | true =>
      rw [if_pos rfl, List.map_cons, List.map_map, atD_succ, ih, List.filter_cons_of_pos hp, List.map_cons]
      rfl
    | false =>
      rw [if_neg (by decide), List.map_map, atD_succ, ih, List.filter_cons_of_neg (by rw [hp]; decide)]
theorem dp_names {K : PySem.W.Frag} {H : Hp} : ∀ us : List Row, DpAll K H (us.map fun u => .str u.name) (us.map fun u => PyData.str u.name)
  | [] => .nil
  | u :: us => .cons (.str _) (dp_names us)
theorem names_lay : ∀ us : List Row, (∀ u ∈ us, PyData.strOk u.name = true) → PyData.canLayAll0 (us.map fun u => PyData.str u.name) = true ∧ PyData.depthAll (us.map fun u => PyData.str u.name) = 0
  | [], _ => ⟨by simp [PyData.canLayAll0], by simp [PyData.depthAll]⟩
  | u :: us, h => by
    obtain ⟨a, b⟩ := names_lay us fun z hz => h z (.tail _ hz)
    refine ⟨?_, ?_⟩
    · simp [PyData.canLayAll0, PyData.canLay0, h u (.head _), a]
    · simp [PyData.depthAll, PyData.depth, b]
theorem names_shaped {us : List Row} (h : ∀ u ∈ us, NameOk u.name) : SeqAt.shaped (.list (us.map fun u => PyData.str u.name)) = true := by
  obtain ⟨a, b⟩ := names_lay us fun u hu => (h u hu).sign
  simp [SeqAt.shaped, PyData.canLay0, PyData.depth, a, b]
theorem eqv_nilL (ds : List PyData) : PyData.eqv (.list ds) (.list []) = ds.isEmpty := by cases ds <;> simp [PyData.eqv, PyData.eqvAll]

theorem shop_row {H : Hp} {d : Addr} {rs : List Row} (h : ShopAt H d rs) (nd : (rs.map (·.name)).Nodup) {u : Row} (hu : u ∈ rs) : ∃ kvs a, H d = some (.dK kvs) ∧ valV kvs (.inr u.name) = some (.ref a) ∧ RowAt H a u := by
  obtain ⟨kvs, hd, hk⟩ := h
  obtain ⟨a, g, ra⟩ := shop_get hk nd u hu
  exact ⟨kvs, a, hd, g, ra⟩
/-- the answer due: ['none', name] or ['told', turned word] -/
def DueL (H : Hp) (r : Addr) (pl : Int) (us : List Row) : Prop :=
  (∀ u0 ws, bareOf pl us = u0 :: ws → H r = some (.lst [.str "none", .str u0.name])) ∧ (bareOf pl us = [] → ∃ r2, H r = some (.lst [.str "told", .ref r2]) ∧ H r2 = some (.tup (awayOf pl us)))
def spDue : Sp := fun vs H Q _ => ∃ (d t : Addr) (rs us : List Row) (pl : Int), vs = [.ref d, .ref t, .int pl] ∧ (pl = 2 ∨ pl = 3) ∧ ShopAt H d rs ∧ (rs.map (·.name)).Nodup ∧ H t = some (.tup (wordV us)) ∧ WordOf rs us ∧
  ∀ r H', H r = none → DueL H' r pl us → Same H H' → Q (.ref r) H'
def spRow (C : Addr) : Sp := fun vs H Q _ => ∃ (a : Addr) (r : Row), vs = [.ref a] ∧ KindAt C H a r ∧ ∀ t, H t = none → Q (.ref t) (upd H t (.tup [.int r.takes, .int r.makes, ov r.back, ov r.mirror, .int r.yarn]))
section
variable {P : Program} {w : World} {K : PySem.W.Frag} {mg : Str → Option Value} {base : Heap} {C CB : Addr} {Cs : Nat → Addr}
abbrev s__law_row : Stmt := top 46
theorem sc__law_row : FnScope ["_law_kind"] ["_law_kind"] (defScope s__law_row) := ⟨rfl, rfl, rfl, by decide +kernel, rfl, by decide +kernel, by decide +kernel⟩
theorem h_law_row (T : KindT K mg C Cs) (F : FunAt K mg "_law_row" "_law_row" s__law_row) (p2 : PK' P w K mg base C "takes" fun r => .int r.takes) (p3 : PK' P w K mg base C "makes" fun r => .int r.makes) (p4 : PK' P w K mg base C "back" fun r => ov r.back) (p5 : PK' P w K mg base C "mirror" fun r => ov r.mirror) (p6 : PK' P w K mg base C "yarn" fun r => .int r.yarn) : Has P w K mg base "_law_row" 3 ["_law_kind"] (spRow C) := by
  refine has_of F sc__law_row (fun _ _ _ _ _ _ us hl => match us, hl with | [_], _ => rfl) (fun vs H Q E h => ?_) (fun f cdv A outer s H vs Q E hr h => ?_)
  · obtain ⟨_, _, rfl, _⟩ := h
    rfl
  · obtain ⟨a, r, rfl, ko, k⟩ := h
    obtain ⟨dO, ho⟩ := id ko
    refine ⟨_, (pss_one (ps_ret (pe_tup (pa_cons (pe_hasP p2 T.cl (hr.mono (by decide)) (pv 0)) (pa_cons (pe_hasP p3 T.cl (hr.mono (by decide)) (pv 0)) (pa_cons (pe_hasP p4 T.cl (hr.mono (by decide)) (pv 0)) (pa_cons (pe_hasP p5 T.cl (hr.mono (by decide)) (pv 0)) (pa_cons (pe_hasP p6 T.cl (hr.mono (by decide)) (pv 0)) pa_nil)))))))), ?_⟩
    exact ⟨_, rfl, a, dO, _, rfl, ho, a, r, rfl, ko, _, rfl, a, dO, _, rfl, ho, a, r, rfl, ko, _, rfl, a, dO, _, rfl, ho, a, r, rfl, ko, _, rfl, a, dO, _, rfl, ho, a, r, rfl, ko, _, rfl, a, dO, _, rfl, ho, a, r, rfl, ko, (by show 5 ≤ sizeLine; decide), fun q nq => k q nq⟩
abbrev s__law_due : Stmt := top 49
theorem sc__law_due : FnScope ["_law_model", "_law_some", "_law_way", "_law_label"] ["_law_model", "_law_some", "_law_way"] (defScope s__law_due) := ⟨rfl, rfl, rfl, by decide +kernel, rfl, by decide +kernel, by decide +kernel⟩
theorem h_law_due (B : Blts mg) (F : FunAt K mg "_law_due" "_law_due" s__law_due) : Has P w K mg base "_law_due" 1 ["_law_model", "_law_some", "_law_way"] spDue := by
  refine has_of F sc__law_due (fun _ _ _ _ _ _ us hl => match us, hl with | [_, _, _], _ => rfl) (fun vs H Q E h => ?_) (fun f cdv A outer s H vs Q E hr h => ?_)
  · obtain ⟨d, t, rs, us, pl, rfl, _⟩ := h
    rfl
  · obtain ⟨d, t, rs, us, pl, rfl, hpl, hs, nd, ht, hw, k⟩ := h
    refine ⟨_, (pss_cons (ps_for PassesOwn.never rfl (pi_tup (pv 1)) (pg_name (i := 3) sc__law_due.nd rfl (Or.inl rfl))
        (pss_one (ps_if (pt_cmpR op_isN (pe_ix ix_tup (pe_dget hr.u1 (pv 0) (pv 3) (fun _ _ => rfl)) (pv 2) (fun _ _ => rfl)) pe_non (by first | exact nomark _ | rfl)) (pss_one (ps_ret (pe_lst (pa_cons pe_str (pa_cons (pv 3) pa_nil)))))
          pss_nil)))
      (pss_one (ps_ret (pe_lst (pa_cons pe_str (pa_cons (pe_callTy call_tuple_of (by rfl) B.n_tuple (by decide +kernel) (pa_cons (pe_lc (own := [("_law_label", 3)]) rfl sc__law_due.nd (pi_tup (pe_revT (pv 1))) (blkOk_by (own := [("_law_label", 3)]) (N := ["_law_model", "_law_some", "_law_way", "_law_label"]) (sc := defScope s__law_due) (by decide +kernel)) (fun _ _ _ _ _ => by exact (pg_name (i := 3) sc__law_due.nd rfl (Or.inl rfl))) (fun _ _ _ _ _ => by exact pts_nil) (fun _ _ _ _ _ => by exact (pe_ix (ix_tupK K) (pe_dget hr.u1 (pv 0) (pv 3) (fun _ _ => rfl)) (pv 2) (fun _ _ => rfl)))) pa_nil)) pa_nil)))))), ?_⟩
    have h240 := hw.1
    have wl : (wordV us).length = us.length := List.length_map _
    have hat : ∀ u : Row, atI [V.int u.takes, V.int u.makes, ov u.back, ov u.mirror, V.int u.yarn] pl = some (ov (twinOf pl u)) := fun u => by rcases hpl with rfl | rfl <;> rfl
    refine ⟨_, rfl, t, rfl, ⟨_, SqT.of ht⟩, for_tup (K := K) (a := t) (xs := wordV us) (fun i σ H' => ∃ v3 : Option V, σ = [some (.ref d), some (.ref t), some (.int pl), v3] ∧ Same H H' ∧ bareOf pl (us.take i) = [])
      ⟨none, rfl, Same.refl _, rfl⟩ (fun i σ H' _ h => ?_) (fun i x σ H' hx h => ?_) (fun σ H' h => ?_)⟩
    · obtain ⟨_, _, e, _⟩ := h
      exact SqT.of (e _ _ ht)
    · obtain ⟨v3, rfl, e, hb⟩ := h
      rw [wordV, List.getElem?_map] at hx
      cases hu : us[i]? with
      | none => rw [hu] at hx; cases hx
      | some u =>
        rw [hu] at hx
        cases (Option.some.inj hx : V.str u.name = x)
        obtain ⟨kvs, a, hd, g, ra⟩ := shop_row (hs.same e) nd (hw.2 u (List.mem_of_getElem? hu))
        have tk : us.take (i + 1) = us.take i ++ [u] := by rw [List.take_add_one, hu]; rfl
        have sp : us = us.take i ++ u :: us.drop (i + 1) := by
          have hi : i < us.length := by
            by_cases z : i < us.length
            · exact z
            · rw [List.getElem?_eq_none (by omega)] at hu; cases hu
          have e1 := List.getElem?_eq_getElem hi
          rw [e1] at hu
          cases hu
          rw [← List.drop_eq_getElem_cons hi, List.take_append_drop]
        refine ⟨_, rfl, _, rfl, d, .ref a, rfl, .inl ⟨kvs, .inr u.name, .inl hd, rfl, g.symm⟩, _, rfl, a, _, pl, _, rfl, rfl, SqT.of ra, hat u, rfl, _, rfl, ite2 (fun c => ?_) (fun c => ?_)⟩
        · have en : twinOf pl u = none := by
            cases z : twinOf pl u with
            | none => rfl
            | some q => rw [z] at c; exact absurd (of_decide_eq_true c) (fun q => by cases q)
          refine ⟨_, rfl, (by show 2 ≤ sizeLine; decide), fun q nq => ?_⟩
          refine k q _ (e.free nq) ⟨fun u0 ws e0 => ?_, fun e0 => ?_⟩ (e.trans (Same.new nq))
          · rw [sp, bareOf, List.filter_append, List.filter_cons_of_pos (by rw [en]; rfl)] at e0
            change bareOf pl (us.take i) ++ _ = _ at e0
            rw [hb] at e0
            cases e0
            exact upd_same
          · rw [sp, bareOf, List.filter_append, List.filter_cons_of_pos (by rw [en]; rfl)] at e0
            exact absurd e0 (by simp)
        · refine ⟨_, rfl, e, ?_⟩
          rw [tk, bareOf, List.filter_append]
          change bareOf pl (us.take i) ++ _ = _
          rw [hb, List.filter_cons_of_neg]
          · rfl
          · intro z
            refine c ?_
            cases q : twinOf pl u with
            | none => exact decide_eq_true rfl
            | some q' => rw [q] at z; cases z
    · obtain ⟨v3, rfl, e, hb⟩ := h
      rw [wl, List.take_length] at hb
      have ht2 := e _ _ ht
      refine ⟨_, rfl, t, _, rfl, SqT.of ht2, fun r1 nr1 => ⟨r1, rfl, ⟨_, SqT.of upd_same⟩, fun D2 nD2 => lc_map walk_tup (atD us.reverse (fun u => ov (twinOf pl u)) .non) nD2 (by rw [List.length_reverse]; omega) (fun H' s' => SqT.of (s' _ _ upd_same)) ?_ ?_⟩⟩
      · rintro i x H3 H4 hi s3 ⟨rfl, hx⟩ R hR
        rw [wordV, ← List.map_reverse, List.getElem?_map] at hx
        cases hu : us.reverse[i]? with
        | none => rw [hu] at hx; cases hx
        | some u =>
          rw [hu] at hx
          cases (Option.some.inj hx : V.str u.name = x)
          have s03 := (e.trans (Same.new nr1)).trans s3
          obtain ⟨kvs, a, hd, g, ra⟩ := shop_row (hs.same s03) nd (hw.2 u (List.mem_reverse.mp (List.mem_of_getElem? hu)))
          have qR := hR H4 (Same.refl _)
          rw [atD_some hu] at qR
          exact ⟨rfl, _, rfl, _, rfl, d, .ref a, rfl, .inl ⟨kvs, .inr u.name, .inl hd, rfl, g.symm⟩, _, rfl, a, _, pl, _, rfl, rfl, SqT.of ra, hat u, qR⟩
      · intro H3 s3 hD3
        have e3 : (List.range (wordV us).reverse.length).map (atD us.reverse (fun u => ov (twinOf pl u)) .non) = awayOf pl us := by
          refine List.ext_getElem (by simp [awayOf, wordV]) fun i h1 h2 => ?_
          have hi : i < us.reverse.length := by simpa [awayOf] using h2
          rw [List.getElem_map, List.getElem_range, atD_some (List.getElem?_eq_getElem hi)]
          simp [awayOf]
        rw [e3] at hD3
        have s03 := (e.trans (Same.new nr1)).trans s3
        refine ⟨D2, _, rfl, .inl ⟨SqL.of hD3, fun r2 nr2 => ⟨(by show 2 ≤ sizeLine; decide), fun r nr => ?_⟩⟩⟩
        have s4 := Same.new (o := .tup (awayOf pl us)) nr2
        have s04 := s03.trans s4
        refine k r _ (s04.free nr) ⟨fun u1 ws1 e1 => (by rw [hb] at e1; cases e1), fun _ => ⟨r2, upd_same, Same.new nr _ _ upd_same⟩⟩ (s04.trans (Same.new nr))
end
end N

set_option maxHeartbeats 4000000
namespace L2
open PySem PySem.Spec PyProof.Rows
section
variable {X : Cx} {C : Addr} {m : Str} {k : Nat} {ps : List Str} {sp : Sp} {apos pos : Pos} {o e : Expr} {es : List Expr} {ta : TE} {t : TA} {pl : Sem Bool} {W : WX}
/-- o.m(e, ..) that may raise, where what follows the error reads the slots -/
theorem pe_hasMXW (h : HasMX X.prog X.w X.K X.mg X.base C m k ps sp) (c : Cls X.K C) (hr : Room k X.A) (tk : Takes X W) (ho : PE X o ta) (ha : PA X (e :: es) t)
    (hst : starEach (e :: es) X.env = (false, eval e X.env) :: starEach es X.env := by rfl) (hpl : (backTo pos (starEach es X.env)).any (·.1) = false := by rfl)
    (ht : eval (.Call (.Attribute o m apos) (e :: es) [] pos) X.env = (do
      let ov ← eval o X.env
      standAt apos.atName
      let (f, first) ← holding [ov] (getMethod ov m pl)
      callWith pos f first (backTo pos (starEach (e :: es) X.env)) (backToKw pos (keywordEach [] X.env))) := by rfl) :
    PE X (.Call (.Attribute o m apos) (e :: es) [] pos) (fun σ H Q => ta σ H fun x H1 => ∃ a dx fs, x = V.ref a ∧ H1 a = some (HO.ins C dx fs) ∧ List.lookup m fs = none ∧ t σ H1 fun vs H2 => ∃ E : XK, (∀ cls d H', E cls d H' → W cls d σ H') ∧ sp (x :: vs) H2 Q E) := by
  obtain ⟨f, fd, hm, hb, F⟩ := h.ex
  refine ⟨fun pins s σ H Q I h => ?_⟩
  refine PySem.W.methodCall_KW (pl := pl) (thn (ho.run pins s σ H _ I h) fun u s1 ⟨x, H1, I1, rx, a', dx, fs, ex, ea, l, q⟩ => ?_) ht
  subst ex
  obtain rfl : u = Value.ref a' := rx
  refine getmeth_ok I1 ea c hm l ?_
  refine PySem.W.callWith_K (first := [.ref a']) (h₀ := X.base) I.ok.mod.kin hm.kp (thn (ha.run pos pins s1 σ H1 _ I1 q) fun us s2 z => ?_) hst hpl
  obtain ⟨vs, H2, I2, r, E, hE, q2⟩ := z
  refine ⟨I2.kIn, ?_⟩
  have r2 : Vals (V.ref a' :: vs) (Value.ref a' :: us) := .cons rfl r
  have hl : ((Value.ref a' :: us) ++ []).length = ps.length := by
    rw [List.append_nil, ← F.len _ _ _ _ q2, r2.length]
  have b := hb s2 (Value.ref a' :: us) I2.kIn hl
  rw [List.append_nil] at b
  refine wpAny_call (codeAny_mono (F.run X.A X.stack s2 H2 ⟨Value.ref a' :: us, []⟩ (Value.ref a' :: us) _ Q E hr I2.env0 b r2 q2) fun z s' hq => ?_)
  match z, hq with
  | .error er, hq => exact tk er s' (XE.of_call I2 (fun cls d H' h => hE cls d H' h) hq)
  | .ok (.ret u), hq => exact I2.after hq
end
end L2

set_option maxHeartbeats 4000000
namespace N
open PySem L2
def Whole (pl : Int) (us : List Row) : Prop := ∀ u ∈ us, twinOf pl u ≠ none
theorem bare_nil {pl : Int} {us : List Row} : bareOf pl us = [] ↔ Whole pl us := by
  unfold bareOf Whole
  rw [List.filter_eq_nil_iff]
  refine forall_congr' fun u => forall_congr' fun _ => ?_
  cases twinOf pl u <;> simp
theorem bare_first {pl : Int} : ∀ {us : List Row} {i : Nat} {u : Row}, us[i]? = some u → twinOf pl u = none → (∀ (j : Nat) (v : Row), j < i → us[j]? = some v → twinOf pl v ≠ none) → ∃ ws, bareOf pl us = u :: ws
  | [], _, _, h, _, _ => by simp at h
  | a :: us, 0, u, h, hn, _ => by
    have e : a = u := by simpa using h
    subst e
    exact ⟨us.filter fun u => (twinOf pl u).isNone, List.filter_cons_of_pos (by rw [hn]; rfl)⟩
  | a :: us, i + 1, u, h, hn, he => by
    obtain ⟨ws, e⟩ := bare_first (pl := pl) (us := us) (i := i) (u := u) (by simpa using h) hn (fun j v hj hv => he (j + 1) v (by omega) (by simpa using hv))
    refine ⟨ws, ?_⟩
    have ha := he 0 a (by omega) rfl
    show List.filter _ (a :: us) = _
    rw [List.filter_cons_of_neg (by cases q : twinOf pl a with | none => exact absurd q ha | some z => simp)]
    exact e

def spTold (CB C : Addr) : Sp := fun vs H Q _ => ∃ (b t : Addr) (rs qs us : List Row) (pl : Int), vs = [.ref b, .ref t, .int pl] ∧ (pl = 2 ∨ pl = 3) ∧ BookAt CB C H b rs qs ∧ H t = some (.tup (wordV us)) ∧ WordOf rs us ∧
  ∀ r H', H r = none → DueL H' r pl us → Same H H' → Q (.ref r) H'
section
variable {P : Program} {w : World} {K : PySem.W.Frag} {mg : Str → Option Value} {base : Heap} {C CB CN CM : Addr} {Cs : Nat → Addr}
abbrev s__law_told : Stmt := top 48
theorem sc__law_told : FnScope ["_law_real", "_law_some", "_law_way", "e"] ["_law_real", "_law_some", "_law_way"] (defScope s__law_told) := ⟨rfl, rfl, rfl, by decide +kernel, rfl, by decide +kernel, by decide +kernel⟩
theorem h_law_told (U : BookT K mg CB) (TN : NoC K mg "NoBack" CN s_NoBack___init__ "NoBack.__init__") (TM : NoC K mg "NoMirror" CM s_NoMirror___init__ "NoMirror.__init__")
    (x00 : PySem.W.exmOne K (.ref CN) (.ref CN) = some true) (x10 : PySem.W.exmOne K (.ref CM) (.ref CN) = some false) (x11 : PySem.W.exmOne K (.ref CM) (.ref CM) = some true) (F : FunAt K mg "_law_told" "_law_told" s__law_told)
    (m_turned : HasMX P w K mg base CB "turned" 3 ["self", "word"] (spBackX CB C CN Row.back)) (m_mirrored : HasMX P w K mg base CB "mirrored" 3 ["self", "word"] (spBackX CB C CM Row.mirror)) :
    Has P w K mg base "_law_told" 4 ["_law_real", "_law_some", "_law_way"] (spTold CB C) := by
  rw [show Row.back = twinOf 2 from funext fun u => (if_pos rfl).symm] at m_turned
  rw [show Row.mirror = twinOf 3 from funext fun u => (if_neg (by decide)).symm] at m_mirrored
  refine has_of F sc__law_told (fun _ _ _ _ _ _ us hl => match us, hl with | [_, _, _], _ => rfl) (fun vs H Q E h => ?_) (fun f cdv A outer s H vs Q E hr h => ?_)
  · obtain ⟨b, t, rs, qs, us, pl, rfl, _⟩ := h
    rfl
  · obtain ⟨b, t, rs, qs, us, pl, rfl, hpl, hb, ht, hw, k⟩ := h
    refine ⟨_, pss_one (ps_try_ases (n := "e") (i := 3) (l := [(.ref CN, _), (.ref CM, _)]) rfl rfl sc__law_told.nd rfl rfl takes0
      (fun W pn xe tk _ => pss_one (ps_ret (pe_lst (pa_cons pe_str (pa_cons (pe_ifExp (pt_cmpR op_eq (pv 2) pe_int (by first | exact nomark _ | rfl)) (pe_hasMXW m_turned U.cl (hr.mono (by decide)) tk (pv 0) (pa_cons (pv 1) pa_nil)) (pe_hasMXW m_mirrored U.cl (hr.mono (by decide)) tk (pv 0) (pa_cons (pv 1) pa_nil))) pa_nil)))))
      (.cons ⟨rfl, by decide, .inl TN.1.g⟩ (fun a o k d pn hz hf => pss_one (ps_ret (pe_lst (pa_cons pe_str (pa_cons (pe_ifExp (pt_cmpR op_eq (pv 2) pe_int (by first | exact nomark _ | rfl)) (pe_xf TN.1.r TN.2 hz hf (pv 3)) pe_str) pa_nil)))))
        (.cons ⟨rfl, by decide, .inl TM.1.g⟩ (fun a o k d pn hz hf => pss_one (ps_ret (pe_lst (pa_cons pe_str (pa_cons (pe_ifExp (pt_cmpR op_eq (pv 2) pe_int (by first | exact nomark _ | rfl)) (pe_xf TM.1.r TM.2 hz hf (pv 3)) pe_str) pa_nil))))) .nil))), ?_⟩
    obtain ⟨dx, tb, db, as, bs, hbi, _⟩ := id hb
    rcases hpl with rfl | rfl
    · let Ech : XK := fun cls d H' => ∃ (dd : Addr) (u : Row) (ws : List Row), d = some dd ∧ H' dd = some (.xd [("name", .str u.name)]) ∧ cls = .ref CN ∧ Same H H' ∧ bareOf 2 us = u :: ws
      refine ⟨_, rfl, rfl, _, rfl, ite2 (fun _ => ?_) (fun c => absurd rfl c)⟩
      refine ⟨_, rfl, b, dx, _, rfl, hbi, rfl, _, rfl, Ech, ?_, b, t, rs, qs, us, rfl, hb, ht, hw, fun all q H1 nq hq s1 => ⟨(by show 2 ≤ sizeLine; decide), fun a na => ?_⟩, fun j u hj hn he dd H1 s1 hdd => ?_⟩
      · rintro cls d H' ⟨dd, u, ws, rfl, hdd, rfl, s1, e0⟩
        have fin : ∀ q, H' q = none → Q (.ref q) (upd H' q (.lst [.str "none", .str u.name])) := fun q nq => k q _ (s1.free nq) ⟨fun u0 ws' e => (by rw [e0] at e; cases e; exact upd_same), fun e => (by rw [e0] at e; cases e)⟩ (s1.trans (Same.new nq))
        exact ⟨true, x00, fun _ a na => ⟨_, rfl, rfl, _, rfl, ite2 (fun _ => ⟨_, rfl, rfl, rfl, dd, _, _, rfl, hdd, rfl, (by show 2 ≤ sizeLine; decide), fin⟩) (fun c => absurd rfl c)⟩, fun z => by cases z⟩
      · have e0 : bareOf 2 us = [] := bare_nil.mpr all
        exact k a _ (s1.free na) ⟨fun u0 ws e => (by rw [e0] at e; cases e), fun _ => ⟨q, upd_same, Same.new na _ _ hq⟩⟩ (s1.trans (Same.new na))
      · obtain ⟨ws, e0⟩ := bare_first hj hn he
        exact ⟨dd, u, ws, rfl, hdd, rfl, s1, e0⟩
    · let Ech : XK := fun cls d H' => ∃ (dd : Addr) (u : Row) (ws : List Row), d = some dd ∧ H' dd = some (.xd [("name", .str u.name)]) ∧ cls = .ref CM ∧ Same H H' ∧ bareOf 3 us = u :: ws
      refine ⟨_, rfl, rfl, _, rfl, ite2 (fun c => absurd c (by decide)) (fun _ => ?_)⟩
      refine ⟨_, rfl, b, dx, _, rfl, hbi, rfl, _, rfl, Ech, ?_, b, t, rs, qs, us, rfl, hb, ht, hw, fun all q H1 nq hq s1 => ⟨(by show 2 ≤ sizeLine; decide), fun a na => ?_⟩, fun j u hj hn he dd H1 s1 hdd => ?_⟩
      · rintro cls d H' ⟨dd, u, ws, rfl, hdd, rfl, s1, e0⟩
        have fin : ∀ q, H' q = none → Q (.ref q) (upd H' q (.lst [.str "none", .str u.name])) := fun q nq => k q _ (s1.free nq) ⟨fun u0 ws' e => (by rw [e0] at e; cases e; exact upd_same), fun e => (by rw [e0] at e; cases e)⟩ (s1.trans (Same.new nq))
        exact ⟨false, x10, fun z => (by cases z), fun _ => ⟨true, x11, fun _ a na => ⟨_, rfl, rfl, _, rfl, ite2 (fun _ => ⟨_, rfl, rfl, rfl, dd, _, _, rfl, hdd, rfl, (by show 2 ≤ sizeLine; decide), fin⟩) (fun c => absurd rfl c)⟩, fun z => by cases z⟩⟩
      · have e0 : bareOf 3 us = [] := bare_nil.mpr all
        exact k a _ (s1.free na) ⟨fun u0 ws e => (by rw [e0] at e; cases e), fun _ => ⟨q, upd_same, Same.new na _ _ hq⟩⟩ (s1.trans (Same.new na))
      · obtain ⟨ws, e0⟩ := bare_first hj hn he
        exact ⟨dd, u, ws, rfl, hdd, rfl, s1, e0⟩
end
end N

set_option maxHeartbeats 4000000
namespace N
open PySem L2
def spLen (CB C : Addr) : Sp := fun vs H Q _ => ∃ (a : Addr) (rs qs : List Row), vs = [.ref a] ∧ BookAt CB C H a rs qs ∧ qs.length ≤ 1000 ∧ Q (.int qs.length) H
section
variable {P : Program} {w : World} {K : PySem.W.Frag} {mg : Str → Option Value} {base : Heap} {C CB : Addr}
abbrev s_Book___len__ : Stmt := inClass (top 27) 12
theorem sc_BookD_lenD : FnScope ["self"] ["self"] (defScope s_Book___len__) := ⟨rfl, rfl, rfl, by decide +kernel, rfl, by decide +kernel, by decide +kernel⟩
theorem m_len (B : Blts mg) (U : BookT K mg CB) (F : MethAt K CB "__len__" "Book.__len__" s_Book___len__) : HasM P w K mg base CB "__len__" 1 ["self"] (spLen CB C) := by
  refine hasM_of F sc_BookD_lenD (fun _ _ _ _ _ _ us hl => match us, hl with | [_], _ => rfl) (fun vs H Q E h => ?_) (fun f cdv A outer s H vs Q E hr h => ?_)
  · obtain ⟨_, _, _, rfl, _⟩ := h
    rfl
  · obtain ⟨a, rs, qs, rfl, hb, hq, k⟩ := h
    obtain ⟨dx, t, d, as, bs, ha, ht, hbs, hd, has, nd⟩ := id hb
    refine ⟨_, (pss_one (ps_ret (pe_callB call_len (by rfl) B.n_len PySem.boot_len (pa_cons (pe_fld (pv 0) rfl) pa_nil)))), ?_⟩
    have len := paired_len hbs
    exact ⟨_, rfl, a, CB, dx, _, _, rfl, ha, U.cl, U.nk, rfl, _, qs.length, rfl, .inr ⟨_, SqT.of ht, by rw [List.length_map, len]⟩, k⟩
abbrev s__law_usual_rows : Stmt := top 45
end
end N

set_option maxHeartbeats 4000000
/-! len(x): x an instance whose class tells it by a def -/
namespace L2
open PySem PySem.Spec PyProof.Rows
section
variable {X : Cx} {C : Addr} {n : Nat} {ps : List Str} {sp : Sp}
def rLenOwn (C : Addr) (sp : Sp) (E : XK) : List V → Hp → VK → Prop := fun xs H Q => ∃ a dx fs, xs = [V.ref a] ∧ H a = some (.ins C dx fs) ∧ sp [.ref a] H (fun z H' => ∃ i : Int, z = .int i ∧ 0 ≤ i ∧ i < 2 ^ 63 ∧ Q z H') E
theorem lenback {pins : List (Addr × Obj)} {σ : St} {Q : VK} {i : Int} {v : Value} {s' : Shared} {H' : Hp} (r : RelV (.int i) v) (h0 : 0 ≤ i) (h1 : i < 2 ^ 63) (I : Inv X pins σ H' s') (q : Q (.int i) H') : PySem.W.LenBack (EP X pins σ Q) v s' := by
  obtain ⟨t, e⟩ := (show ∃ t, v = Value.int i t from r)
  cases e
  refine ⟨⟨h0, h1⟩, .int i, H', ?_, ⟨_, rfl⟩, q⟩
  exact ⟨I.ok, I.os, I.bare, I.base, I.loc, I.cell, I.free, I.freeC, I.pin, I.hok, I.len⟩
theorem call_lenM (h : HasM X.prog X.w X.K X.mg X.base C "__len__" n ps sp) (hr : Room (n + 1) X.A) : CallR X (.builtin "len") (rLenOwn C sp E0) := by
  obtain ⟨f, fd, hm, hb, F⟩ := h.ex
  intro pins s σ H xs us Q I r h
  obtain ⟨a, dx, fs, rfl, ha, q⟩ := h
  obtain ⟨u, rfl, ru⟩ := r.one
  cases (show u = Value.ref a from ru)
  obtain ⟨mA, O, _, _, _, _⟩ := ins_get I.hok ha
  obtain ⟨od, J, _⟩ := O.look
  obtain ⟨m, hF⟩ := I.fr
  refine PySem.W.len_K hF I.ok.mod.kin J hm.at_ hm.fn ?_
  refine wpAny_mono (run_under (us := [.ref a]) (ws := [.ref a]) F hb hr.in1 I.env0.in1 pass0 I (.cons rfl .nil) q) (fun w s' z => ?_) fun _ _ x => x
  obtain ⟨z', H', I', rz, i, ei, h0, h1, qz⟩ := z
  subst ei
  exact lenback rz h0 h1 I' qz
end
section
variable {X : Cx} {C : Addr} {m : Str} {k : Nat} {ps : List Str} {sp : Sp} {apos pos : Pos} {o : Expr} {ta : TE} {pl : Sem Bool}
/-- o.m() -/
theorem pe_hasM0 (h : HasM X.prog X.w X.K X.mg X.base C m k ps sp) (c : Cls X.K C) (hr : Room k X.A) (ho : PE X o ta)
    (ht : eval (.Call (.Attribute o m apos) [] [] pos) X.env = (do
      let ov ← eval o X.env
      standAt apos.atName
      let (f, first) ← holding [ov] (getMethod ov m pl)
      callWith pos f first (backTo pos (starEach [] X.env)) (backToKw pos (keywordEach [] X.env))) := by rfl) :
    PE X (.Call (.Attribute o m apos) [] [] pos) (tMeth C m sp [] E0 ta tNil) := by
  obtain ⟨f, fd, hm, hb, F⟩ := h.ex
  exact pe_meth0 ho c hm F hr hb .nil pass0 ht
end
end L2

set_option maxHeartbeats 4000000
namespace N
open PySem L2
/-- x in book, x any value whose type is told: a text, or of a type that is no str -/
def spInV (K : PySem.W.Frag) (CB C : Addr) : Sp := fun vs H Q _ => ∃ (a : Addr) (v : V) (rs qs : List Row), vs = [.ref a, v] ∧ BookAt CB C H a rs qs ∧
  ((∃ z : Str, v = .str z) ∨ ∃ T, TyX K H v (.type T) ∧ kitB T "str" = some false ∧ (∀ z, v ≠ .str z)) ∧ Q (.bl (inBook rs v)) H
theorem inBook_not {rs : List Row} {v : V} (h : ∀ z, v ≠ .str z) : inBook rs v = false := by
  cases v with
  | str z => exact absurd rfl (h z)
  | _ => rfl
theorem inV_lst {K : PySem.W.Frag} {H : Hp} {a : Addr} {xs : List V} (h : H a = some (.lst xs)) : ∃ T, TyX K H (.ref a) (.type T) ∧ kitB T "str" = some false ∧ (∀ z, V.ref a ≠ .str z) := ⟨_, .base (.lst h), by decide +kernel, fun z e => by cases e⟩
theorem inV_tup {K : PySem.W.Frag} {H : Hp} {a : Addr} {xs : List V} (h : H a = some (.tup xs)) : ∃ T, TyX K H (.ref a) (.type T) ∧ kitB T "str" = some false ∧ (∀ z, V.ref a ≠ .str z) := ⟨_, .base (.tup h), by decide +kernel, fun z e => by cases e⟩
theorem inV_odd {K : PySem.W.Frag} {H : Hp} {v : V} (h : Odd H v) (n : ∀ z, v ≠ .str z) : ∃ T, TyX K H v (.type T) ∧ kitB T "str" = some false ∧ (∀ z, v ≠ .str z) := by
  obtain ⟨T, ty, ks, _, _⟩ := h.ty (K := K)
  refine ⟨T, ty, ?_, n⟩
  rw [ks]
  cases v with
  | str z => exact absurd rfl (n z)
  | _ => rfl
section
variable {P : Program} {w : World} {K : PySem.W.Frag} {mg : Str → Option Value} {base : Heap} {C CB : Addr}
theorem m_containsV (B : Blts mg) (U : BookT K mg CB) (F : MethAt K CB "__contains__" "Book.__contains__" s_Book___contains__) : HasM P w K mg base CB "__contains__" 1 ["self", "x"] (spInV K CB C) := by
  refine hasM_of F sc_BookD_containsD (fun _ _ _ _ _ _ us hl => match us, hl with | [_, _], _ => rfl) (fun vs H Q E h => ?_) (fun f cdv A outer s H vs Q E hr h => ?_)
  · obtain ⟨_, _, _, _, rfl, _⟩ := h
    rfl
  · obtain ⟨a, v, rs, qs, rfl, hb, hv, k⟩ := h
    obtain ⟨dx, t, d, as, bs, ha, ht, hbs, hd, has, nd⟩ := id hb
    refine ⟨_, (pss_one (ps_ret (pe_and (pe_callB call_isi (by rfl) B.n_isinstance (by decide +kernel) (pa_cons (pv 1) (pa_cons (pe_bltn (v := .ty "str") (u := .type "str") rfl B.n_str (by decide +kernel) rfl) pa_nil))) (pe_one (pe_cmp (pc_din hr.u1 (pv 1) (pe_fld (pv 0) rfl))))))), ?_⟩
    rcases hv with ⟨z, rfl⟩ | ⟨T, ty, ks, nz⟩
    · have ts : kitB "str" "str" = some true := by decide +kernel
      refine ⟨_, rfl, _, _, _, _, _, rfl, .ty _, .base (.str _), kit_b ts, _, rfl, iteT ?_⟩
      by_cases hz : z ∈ rs.map (·.name)
      · obtain ⟨u, hu, rfl⟩ := List.mem_map.mp hz
        have gb := (kAt_is has nd hu).1
        have e : inBook rs (.str u.name) = true := decide_eq_true hz
        rw [e] at k
        exact ⟨_, rfl, _, rfl, a, CB, dx, _, _, rfl, ha, U.cl, U.nt, rfl, d, some (.ref _), rfl, .inl ⟨_, .inr u.name, .inl hd, rfl, gb.symm⟩, k⟩
      · have e : inBook rs (.str z) = false := decide_eq_false hz
        rw [e] at k
        exact ⟨_, rfl, _, rfl, a, CB, dx, _, _, rfl, ha, U.cl, U.nt, rfl, d, none, rfl, .inl ⟨_, .inr z, .inl hd, rfl, (tab_none hz).symm⟩, k⟩
    · refine ⟨_, rfl, _, _, _, _, _, rfl, .ty _, ty, kit_b ks, _, rfl, iteF ?_⟩
      rw [inBook_not nz] at k
      exact k
end
end N

set_option maxHeartbeats 4000000
namespace N
open PySem L2
def leS (x y : Str) : Bool := decide (x.cps.toList ≤ y.cps.toList)
theorem leS_anti (a b : Str) (h : leS a b = true) (h2 : leS b a = true) : a = b := by
  have e := List.le_antisymm (of_decide_eq_true h) (of_decide_eq_true h2)
  cases a; cases b
  simpa using e
theorem rowsSorted_names (rs : List Row) : ((rowsSorted rs).map (·.name)).Perm (rs.map (·.name)) ∧ ((rowsSorted rs).map (·.name)).Pairwise (fun x y => leS x y = true) := by
  refine ⟨(List.mergeSort_perm _ _).map _, ?_⟩
  rw [List.pairwise_map]
  exact List.pairwise_mergeSort (le := fun x y : Row => decide (x.name.cps.toList ≤ y.name.cps.toList)) (fun a b c h1 h2 => decide_eq_true (List.le_trans (of_decide_eq_true h1) (of_decide_eq_true h2)))
    (fun a b => by
      rcases List.le_total a.name.cps.toList b.name.cps.toList with h | h
      · simp [h]
      · simp [h]) rs
theorem names_are {ys : List Str} {rs : List Row} (p : ys.Perm (rs.map (·.name))) (h : ys.Pairwise fun x y => leS x y = true) : ys = (rowsSorted rs).map (·.name) := by
  obtain ⟨p2, h2⟩ := rowsSorted_names rs
  exact (p.trans p2.symm).eq_of_pairwise (fun a b _ _ => leS_anti a b) h h2
theorem ltCps_of : ∀ {a b : List Nat}, a < b → PySem.Spec.ltCps a b = true
  | [], [], h => by simp at h
  | [], _ :: _, _ => by simp [PySem.Spec.ltCps]
  | _ :: _, [], h => by simp at h
  | x :: a, y :: b, h => by
    rw [List.cons_lt_cons_iff] at h
    rcases h with h | ⟨rfl, h⟩
    · simp [PySem.Spec.ltCps, h]
    · simp [PySem.Spec.ltCps, ltCps_of h]
theorem leS_of {x y : Str} (h : PySem.Spec.ltCps y.cps.toList x.cps.toList = false) : leS x y = true := by
  refine decide_eq_true ?_
  rw [← List.not_lt]
  intro z
  rw [ltCps_of z] at h
  cases h
theorem rising_pair : ∀ {x : Str} {r : List Str}, PyProof.Rows.risingS x r = true → (x :: r).Pairwise fun x y => leS x y = true
  | x, [], _ => List.pairwise_singleton _ _
  | x, y :: r, h => by
    unfold PyProof.Rows.risingS at h
    rw [Bool.and_eq_true] at h
    have ih := rising_pair h.2
    have xy : leS x y = true := leS_of (by simpa using h.1)
    refine List.pairwise_cons.mpr ⟨fun z hz => ?_, ih⟩
    rcases List.mem_cons.mp hz with e | hz
    · exact e ▸ xy
    · have yz := (List.pairwise_cons.mp ih).1 z hz
      exact decide_eq_true (List.le_trans (of_decide_eq_true xy) (of_decide_eq_true yz))
/-- sorted(model) is the sequence of the book's kinds -/
theorem sorted_are {ys : List Str} {rs : List Row} (p : ys.Perm (rs.map (·.name))) (h : PyProof.Rows.sortedS ys = true) : ys = (rowsSorted rs).map (·.name) := by
  refine names_are p ?_
  cases ys with
  | nil => exact List.Pairwise.nil
  | cons x r => exact rising_pair h
end N

set_option maxHeartbeats 4000000
namespace N
open PySem L2
theorem eqv_namesA : ∀ us : List Row, PyData.eqvAll (us.map fun u => PyData.str u.name) (us.map fun u => PyData.str u.name) = true
  | [] => by simp [PyData.eqvAll]
  | u :: us => by simp [PyData.eqvAll, PyData.eqv, eqv_namesA us]
theorem eqv_namesL (us : List Row) : PyData.eqv (.list (us.map fun u => PyData.str u.name)) (.list (us.map fun u => PyData.str u.name)) = true := by
  simp only [PyData.eqv]
  exact eqv_namesA us
def rowT (u : Row) : List V := [.int u.takes, .int u.makes, ov u.back, ov u.mirror, .int u.yarn]
def rowE (u : Row) : List PyData := [.int u.takes, .int u.makes, od u.back, od u.mirror, .int u.yarn]
theorem dp_rowT {K : PySem.W.Frag} {H : Hp} (r : Row) : DpAll K H (rowT r) (rowE r) := .cons (.int _) (.cons (.int _) (.cons (dp_ov _) (.cons (dp_ov _) (.cons (.int _) .nil))))
theorem dp_rows {K : PySem.W.Frag} {H : Hp} : ∀ {ts : List Addr} {us : List Row}, Paired (fun t u => H t = some (.tup (rowT u))) ts us → DpAll K H (ts.map V.ref) (us.map fun u => PyData.tuple (rowE u))
  | _, _, .nil => .nil
  | _, _, .cons h hs => .cons (.tup (SqT.of h) (dp_rowT _)) (dp_rows hs)
theorem dp_vals {K : PySem.W.Frag} {H : Hp} {g : Row → V} : ∀ {us : List Row}, (∀ u ∈ us, ∃ a, g u = .ref a ∧ H a = some (.tup (rowT u))) → DpAll K H (us.map g) (us.map fun u => PyData.tuple (rowE u))
  | [], _ => .nil
  | u :: us, h => by
    obtain ⟨a, e, ha⟩ := h u (.head _)
    rw [List.map_cons, e]
    exact .cons (.tup (SqT.of ha) (dp_rowT _)) (dp_vals fun z hz => h z (.tail _ hz))
theorem rowE_lay {r : Row} (h : KindOk r) : PyData.canLay0 (.tuple (rowE r)) = true ∧ PyData.depth (.tuple (rowE r)) = 1 := by
  have o : ∀ o : Option Str, (∀ x, o = some x → NameOk x) → PyData.canLay0 (od o) = true ∧ PyData.depth (od o) = 0 := fun o ho => by
    cases o with
    | none => exact ⟨rfl, rfl⟩
    | some s => exact ⟨(ho s rfl).sign, rfl⟩
  obtain ⟨b1, b2⟩ := o _ h.back
  obtain ⟨m1, m2⟩ := o _ h.mirror
  constructor <;> simp [rowE, PyData.canLay0, PyData.canLayAll0, PyData.depth, PyData.depthAll, b1, b2, m1, m2]
theorem rows_lay : ∀ {us : List Row}, (∀ u ∈ us, KindOk u) → PyData.canLayAll0 (us.map fun u => PyData.tuple (rowE u)) = true ∧ PyData.depthAll (us.map fun u => PyData.tuple (rowE u)) ≤ 1
  | [], _ => ⟨by simp [PyData.canLayAll0], by simp [PyData.depthAll]⟩
  | u :: us, h => by
    obtain ⟨a, b⟩ := rows_lay fun z hz => h z (.tail _ hz)
    obtain ⟨c, d⟩ := rowE_lay (h u (.head _))
    refine ⟨?_, ?_⟩
    · simp only [List.map_cons, PyData.canLayAll0, c, a, Bool.and_self]
    · simp only [List.map_cons, PyData.depthAll, d]
      omega
theorem eqv_rowE (r : Row) : PyData.eqv (.tuple (rowE r)) (.tuple (rowE r)) = true := by
  have o : ∀ o : Option Str, PyData.eqv (od o) (od o) = true := fun o => by cases o <;> simp [od, PyData.eqv]
  simp [rowE, PyData.eqv, PyData.eqvAll, o]
theorem eqv_rowsA : ∀ us : List Row, PyData.eqvAll (us.map fun u => PyData.tuple (rowE u)) (us.map fun u => PyData.tuple (rowE u)) = true
  | [] => by simp [PyData.eqvAll]
  | u :: us => by
    simp only [List.map_cons, PyData.eqvAll, eqv_rowE, eqv_rowsA us, Bool.and_self]
def spLike (CB C : Addr) : Sp := fun vs H Q _ => ∃ (b d : Addr) (rs : List Row), vs = [.ref b, .ref d] ∧ BookAt CB C H b rs (rowsSorted rs) ∧ ShopAt H d rs ∧ (∀ u ∈ rs, KindOk u) ∧ rs.length ≤ 24 ∧ rs ≠ [] ∧ ("nokind" : Str) ∉ rs.map (·.name) ∧ ∀ H', Same H H' → Q (.bl true) H'
section
variable {P : Program} {w : World} {K : PySem.W.Frag} {mg : Str → Option Value} {base : Heap} {C CB : Addr} {Cs : Nat → Addr}
abbrev s__law_is_like : Stmt := top 47
theorem sc__law_is_like : FnScope ["_law_real", "_law_model", "_law_labels", "_law_one", "_law_told_here", "_law_label", "_law_odd"] ["_law_real", "_law_model"] (defScope s__law_is_like) := ⟨rfl, rfl, rfl, by decide +kernel, rfl, by decide +kernel, by decide +kernel⟩
theorem h_law_is_like (B : Blts mg) (U : BookT K mg CB) (KT : KindT K mg C Cs) (F : FunAt K mg "_law_is_like" "_law_is_like" s__law_is_like) (m_names : HasM P w K mg base CB "names" 3 ["self"] (spNames CB C)) (m_kind : HasMK P w K mg base CB "kind" 2 "self" "name" (spKindNamed CB C))
    (m_contains : HasM P w K mg base CB "__contains__" 1 ["self", "x"] (spInV K CB C)) (m_len : HasM P w K mg base CB "__len__" 1 ["self"] (spLen CB C)) (p1 : PK' P w K mg base C "name" fun r => .str r.name) (h_law_row : Has P w K mg base "_law_row" 3 ["_law_kind"] (spRow C)) :
    Has P w K mg base "_law_is_like" 4 ["_law_real", "_law_model"] (spLike CB C) := by
  refine has_of F sc__law_is_like (fun _ _ _ _ _ _ us hl => match us, hl with | [_, _], _ => rfl) (fun vs H Q E h => ?_) (fun f cdv A outer s H vs Q E hr h => ?_)
  · obtain ⟨b, d, rs, rfl, _⟩ := h
    rfl
  · obtain ⟨b, d, rs, rfl, hb, hs, ok, l24, ne, nk, k⟩ := h
    refine ⟨_, (pss_cons (ps_set (i := 2) sc__law_is_like.nd rfl (Or.inl rfl) (pe_callB (call_sortedD rfl) (by rfl) B.n_sorted (by decide +kernel) (pa_cons (pv 1) pa_nil)))
      (pss_cons (ps_if (PW.pt (pw_or (pt_cmpR (op_neD hr.units) (pe_hasM0 m_names U.cl (hr.mono (by decide)) (pv 0)) (pv 2) (by first | exact nomark _ | rfl)) (pw_or (pt_cmpR (op_neD hr.units) (pe_lc (own := [("_law_one", 3)]) rfl sc__law_is_like.nd (pi_list (pv 2)) (blkOk_by (own := [("_law_one", 3)]) (N := ["_law_real", "_law_model", "_law_labels", "_law_one", "_law_told_here", "_law_label", "_law_odd"]) (sc := defScope s__law_is_like) (by decide +kernel)) (fun _ _ _ _ _ => by exact (pg_name (i := 3) sc__law_is_like.nd rfl (Or.inl rfl))) (fun _ _ _ _ _ => by exact pts_nil) (fun _ _ _ _ _ => by exact (pe_hasP p1 KT.cl (hr.mono (by decide)) (pe_hasM m_kind.m U.cl (hr.mono (by decide)) (pv 0) (pa_cons (pv 3) pa_nil))))) (pv 2) (by first | exact nomark _ | rfl)) (pw_or1 (pt_cmpR op_ne (pe_callB (call_lenM m_len (hr.mono (by decide))) (by rfl) B.n_len PySem.boot_len (pa_cons (pv 0) pa_nil)) (pe_callB call_len_seq (by rfl) B.n_len PySem.boot_len (pa_cons (pv 2) pa_nil)) (by first | exact nomark _ | rfl)))))) (pss_one (ps_ret pe_bl))
        pss_nil)
      (pss_cons (ps_set (i := 4) sc__law_is_like.nd rfl (Or.inl rfl) (pe_hasM0 m_names U.cl (hr.mono (by decide)) (pv 0)))
      (pss_cons (ps_expr (pe_bm PySem.F.plainAttrs_list PySem.F.slot_list_append PySem.F.type_list_append mt_append (pv 4) (pa_cons pe_str pa_nil)))
      (pss_cons (ps_if (PW.pt (pw_or (pt_cmpR (op_neD hr.units) (pe_hasM0 m_names U.cl (hr.mono (by decide)) (pv 0)) (pv 2) (by first | exact nomark _ | rfl)) (pw_or1 (pt_not (pt_val (pe_callB (cr_all rfl) (by rfl) B.n_all (by decide +kernel) (pa_cons (pe_lc (own := [("_law_label", 5)]) rfl sc__law_is_like.nd (pi_list (pv 2)) (blkOk_by (own := [("_law_label", 5)]) (N := ["_law_real", "_law_model", "_law_labels", "_law_one", "_law_told_here", "_law_label", "_law_odd"]) (sc := defScope s__law_is_like) (by decide +kernel)) (fun _ _ _ _ _ => by exact (pg_name (i := 5) sc__law_is_like.nd rfl (Or.inl rfl))) (fun _ _ _ _ _ => by exact pts_nil) (fun _ _ _ _ _ => by exact (pe_cmpR (op_inM m_contains (hr.mono (by decide))) (pv 5) (pv 0) (by first | exact nomark _ | rfl)))) pa_nil))))))) (pss_one (ps_ret pe_bl))
        pss_nil)
      (pss_cons (ps_for PassesOwn.never rfl (pi_list (pe_lst (pa_cons pe_non (pa_cons pe_int (pa_cons pe_bl (pa_cons pe_str (pa_cons pe_str (pa_cons pe_str (pa_cons (pv 2) (pa_cons (pe_tup (pa_cons (pe_ix ix_list (pv 2) pe_int (fun _ _ => rfl)) pa_nil)) (pa_cons pe_dnewK (pa_cons (pe_lst (pa_cons pe_str pa_nil)) pa_nil)))))))))))) (pg_name (i := 6) sc__law_is_like.nd rfl (Or.inl rfl))
        (pss_one (ps_if (pt_cmpR op_ne (pe_callB call_repr_bool (by rfl) B.n_repr (by decide +kernel) (pa_cons (pe_cmpR (op_inM m_contains (hr.mono (by decide))) (pv 6) (pv 0) (by first | exact nomark _ | rfl)) pa_nil)) pe_str (by first | exact nomark _ | rfl)) (pss_one (ps_ret pe_bl))
          pss_nil)))
      (pss_one (ps_ret (pe_cmpR (op_eqD hr.units) (pe_lc (own := [("_law_label", 5)]) rfl sc__law_is_like.nd (pi_list (pv 2)) (blkOk_by (own := [("_law_label", 5)]) (N := ["_law_real", "_law_model", "_law_labels", "_law_one", "_law_told_here", "_law_label", "_law_odd"]) (sc := defScope s__law_is_like) (by decide +kernel)) (fun _ _ _ _ _ => by exact (pg_name (i := 5) sc__law_is_like.nd rfl (Or.inl rfl))) (fun _ _ _ _ _ => by exact pts_nil) (fun _ _ _ _ _ => by exact (pe_has h_law_row (hr.mono (by decide)) (pa_cons (pe_hasM m_kind.m U.cl (hr.mono (by decide)) (pv 0) (pa_cons (pv 5) pa_nil)) pa_nil)))) (pe_lc (own := [("_law_label", 5)]) rfl sc__law_is_like.nd (pi_list (pv 2)) (blkOk_by (own := [("_law_label", 5)]) (N := ["_law_real", "_law_model", "_law_labels", "_law_one", "_law_told_here", "_law_label", "_law_odd"]) (sc := defScope s__law_is_like) (by decide +kernel)) (fun _ _ _ _ _ => by exact (pg_name (i := 5) sc__law_is_like.nd rfl (Or.inl rfl))) (fun _ _ _ _ _ => by exact pts_nil) (fun _ _ _ _ _ => by exact (pe_dget hr.u1 (pv 1) (pv 5) (fun _ _ => rfl)))) (by first | exact nomark _ | rfl)))))))))), ?_⟩
    obtain ⟨kvs, hd, hk⟩ := id hs
    obtain ⟨dx, tb, db, as, bs, hbi, _, _, _, _, nd⟩ := id hb
    have lq : (rowsSorted rs).length = rs.length := by have := (rowsSorted_names rs).1.length_eq; simpa using this
    refine ⟨_, rfl, d, kvs, rs.map (·.name), rfl, .inl hd, ShopAt.keys hk, by rw [List.length_map]; omega, fun names nl pm so nn => ?_⟩
    obtain rfl := sorted_are pm so
    have s1 : Same H (upd H nl (.lst (((rowsSorted rs).map (·.name)).map V.str))) := Same.new nn
    generalize hH1 : upd H nl (.lst (((rowsSorted rs).map (·.name)).map V.str)) = H1 at s1 ⊢
    have hn1 : H1 nl = some (.lst ((rowsSorted rs).map fun u => .str u.name)) := by rw [← hH1, upd_same, List.map_map]; rfl
    refine next_of ?_
    dsimp only
    have okq : ∀ u ∈ rowsSorted rs, NameOk u.name := fun u hu => (ok u ((List.mergeSort_perm _ _).mem_iff.mp hu)).name
    refine ⟨_, rfl, b, dx, _, rfl, s1 _ _ hbi, rfl, b, rs, _, rfl, hb.same s1, by omega, fun q H2 nq hq s2 => ⟨_, rfl, _, _, .lst (SqL.of hq) (dp_names _), .lst (SqL.of (s2 _ _ hn1)) (dp_names _), names_shaped okq, names_shaped okq, _, rfl, ?_⟩⟩
    rw [eqv_namesL]
    refine iteF ?_
    have s02 := s1.trans s2
    have hn2 := s2 _ _ hn1
    have wl : ((rowsSorted rs).map fun u => V.str u.name).length = (rowsSorted rs).length := List.length_map _
    refine ⟨_, rfl, nl, rfl, ⟨_, SqL.of hn2⟩, fun D nD => lc_map walk_list (gAt (rowsSorted rs) fun r => .str r.name) nD (by rw [wl]; omega) (fun H' s' => SqL.of (s' _ _ hn2)) ?_ ?_⟩
    · rintro i x H3 H4 hi s3 ⟨rfl, hx⟩ R hR
      rw [List.getElem?_map] at hx
      cases hu : (rowsSorted rs)[i]? with
      | none => rw [hu] at hx; cases hx
      | some u =>
        rw [hu] at hx
        cases (Option.some.inj hx : V.str u.name = x)
        have s04 := s02.trans s3
        have mu := (List.mergeSort_perm _ _).mem_iff.mp (List.mem_of_getElem? hu)
        refine ⟨rfl, _, rfl, b, dx, _, rfl, s04 _ _ hbi, rfl, _, rfl, b, rs, _, u, rfl, hb.same s04, mu, (ok u mu).name, fun o ko => ?_⟩
        obtain ⟨dO, ho⟩ := id ko
        have qq := hR H4 (Same.refl _)
        rw [gAt, hu] at qq
        exact ⟨o, dO, _, rfl, ho, o, u, rfl, ko, qq⟩
    · intro H3 s3 hD
      rw [wl, gAt_all] at hD
      have s03 := s02.trans s3
      refine ⟨_, rfl, _, _, .lst (SqL.of hD) (dp_names _), .lst (SqL.of (s3 _ _ hn2)) (dp_names _), names_shaped okq, names_shaped okq, _, rfl, ?_⟩
      rw [eqv_namesL]
      refine iteF ?_
      have key : ∀ x y : V, x = y → V.bl (!decide (x = y)) = V.bl false := fun x y h => by
        subst h
        simp
      refine ⟨_, rfl, b, dx, _, rfl, s03 _ _ hbi, b, rs, _, rfl, hb.same s03, by omega, _, rfl, by omega, by omega, _, rfl, nl, _, rfl, .inl (SqL.of (s3 _ _ hn2)), rfl, false, key _ _ (by rw [wl]), iteF ?_⟩
      refine next_of ?_
      dsimp only
      refine ⟨_, rfl, b, dx, _, rfl, s03 _ _ hbi, rfl, b, rs, _, rfl, hb.same s03, by omega, fun q2 H4 nq2 hq2 s4 => ?_⟩
      refine next_of ?_
      dsimp only
      refine ⟨_, rfl, .inl ⟨rfl, _, SqL.of hq2⟩, q2, _, _, rfl, rfl, hq2, by rw [wl, sizeLine_eq]; omega, ?_⟩
      have s05 := s03.trans (s4.mut (o := .lst (((rowsSorted rs).map fun r => V.str r.name) ++ [V.str "more"])) nq2)
      have hn5 := (s3.trans (s4.mut (o := .lst (((rowsSorted rs).map fun r => V.str r.name) ++ [V.str "more"])) nq2)) _ _ hn2
      generalize upd H4 q2 (.lst (((rowsSorted rs).map fun r => V.str r.name) ++ [V.str "more"])) = H5 at s05 hn5 ⊢
      refine next_of ?_
      dsimp only
      refine ⟨_, rfl, b, dx, _, rfl, s05 _ _ hbi, rfl, b, rs, _, rfl, hb.same s05, by omega, fun q6 H6 nq6 hq6 s6 => ⟨_, rfl, _, _, .lst (SqL.of hq6) (dp_names _), .lst (SqL.of (s6 _ _ hn5)) (dp_names _), names_shaped okq, names_shaped okq, _, rfl, ?_⟩⟩
      rw [eqv_namesL]
      refine iteF ?_
      have s06 := s05.trans s6
      have hn6 := s6 _ _ hn5
      refine ⟨_, rfl, nl, rfl, ⟨_, SqL.of hn6⟩, fun D2 nD2 => lc_map walk_list (fun _ => .bl true) nD2 (by rw [wl]; omega) (fun H' s' => SqL.of (s' _ _ hn6)) ?_ ?_⟩
      · rintro i x H7 H8 hi s7 ⟨rfl, hx⟩ R hR
        rw [List.getElem?_map] at hx
        cases hu : (rowsSorted rs)[i]? with
        | none => rw [hu] at hx; cases hx
        | some u =>
          rw [hu] at hx
          cases (Option.some.inj hx : V.str u.name = x)
          have s08 := s06.trans s7
          have mu := (List.mergeSort_perm _ _).mem_iff.mp (List.mem_of_getElem? hu)
          have hin : inBook rs (.str u.name) = true := decide_eq_true (List.mem_map_of_mem mu)
          refine ⟨rfl, _, rfl, _, rfl, b, dx, _, rfl, s08 _ _ hbi, b, .str u.name, rs, _, rfl, hb.same s08, .inl ⟨_, rfl⟩, ?_⟩
          rw [hin]
          exact ⟨true, rfl, hR _ (Same.refl _)⟩
      · intro H7 s7 hD2
        refine ⟨D2, (List.range ((rowsSorted rs).map fun u => V.str u.name).length).map fun _ => true, rfl, SqL.of (by rw [List.map_map]; exact hD2), ?_⟩
        rw [show ((List.range ((rowsSorted rs).map fun u => V.str u.name).length).map fun _ => true).all id = true by simp]
        have s07 := s06.trans s7
        have hn7 := s7 _ _ hn6
        refine ⟨_, rfl, iteF ?_⟩
        refine next_of ?_
        dsimp only
        obtain ⟨u0, ws0, e0⟩ : ∃ u0 ws0, rowsSorted rs = u0 :: ws0 := by
          cases e : rowsSorted rs with
          | nil =>
            rw [e] at lq
            exact absurd (List.length_eq_zero_iff.mp lq.symm) ne
          | cons u ws => exact ⟨u, ws, rfl⟩
        have h0 : atI ((rowsSorted rs).map fun u => V.str u.name) 0 = some (.str u0.name) := by
          rw [e0]
          exact atI_nat (j := 0) (v := V.str u0.name) rfl
        refine ⟨_, rfl, _, rfl, nl, _, 0, _, rfl, rfl, SqL.of hn7, h0, (by show 1 ≤ sizeLine; decide), fun q8 nq8 q9 nq9 => ⟨(by show 1 ≤ sizeLine; decide), fun qa nqa => ⟨(by show 10 ≤ sizeLine; decide), fun qb nqb => ?_⟩⟩⟩
        have sa : Same H7 (upd (upd (upd H7 q8 (.tup [V.str u0.name])) q9 (.dK [])) qa (.lst [V.str "k"])) := ((Same.new nq8).trans (Same.new nq9)).trans (Same.new nqa)
        have g8 := ((Same.new (o := .dK []) nq9).trans (Same.new (o := .lst [V.str "k"]) nqa)) _ _ upd_same
        have g9 := (Same.new (o := .lst [V.str "k"]) nqa) _ _ upd_same
        have ga : (upd (upd (upd H7 q8 (.tup [V.str u0.name])) q9 (.dK [])) qa (.lst [V.str "k"])) qa = some (.lst [V.str "k"]) := upd_same
        generalize upd (upd (upd H7 q8 (.tup [V.str u0.name])) q9 (.dK [])) qa (.lst [V.str "k"]) = Ha at sa g8 g9 ga nqb ⊢
        have sb : Same Ha (upd Ha qb (.lst [V.non, .int 0, .bl true, .str "", .str "nokind", .str "K", .ref nl, .ref q8, .ref q9, .ref qa])) := Same.new nqb
        have gb : (upd Ha qb (.lst [V.non, .int 0, .bl true, .str "", .str "nokind", .str "K", .ref nl, .ref q8, .ref q9, .ref qa])) qb = some (.lst [V.non, .int 0, .bl true, .str "", .str "nokind", .str "K", .ref nl, .ref q8, .ref q9, .ref qa]) := upd_same
        generalize upd Ha qb (.lst [V.non, .int 0, .bl true, .str "", .str "nokind", .str "K", .ref nl, .ref q8, .ref q9, .ref qa]) = Hb at sb gb ⊢
        have s0b := s07.trans (sa.trans sb)
        have gl := (sa.trans sb) _ _ hn7
        replace g8 := sb _ _ g8
        replace g9 := sb _ _ g9
        replace ga := sb _ _ ga
        have nin : ∀ z : Str, ¬ NameOk z → inBook rs (.str z) = false := fun z hz => decide_eq_false fun hm => by
          obtain ⟨u, hu, e⟩ := List.mem_map.mp hm
          exact hz (e ▸ (ok u hu).name)
        have good : ∀ x ∈ [V.non, .int 0, .bl true, .str "", .str "nokind", .str "K", .ref nl, .ref q8, .ref q9, .ref qa], (∃ z : Str, x = .str z ∧ inBook rs x = false) ∨ ∀ H', Same Hb H' → ∃ T, TyX K H' x (.type T) ∧ kitB T "str" = some false ∧ ∀ z, x ≠ .str z := fun x hx => by
          simp only [List.mem_cons, List.mem_nil_iff, or_false] at hx
          rcases hx with rfl | rfl | rfl | rfl | rfl | rfl | rfl | rfl | rfl | rfl
          · exact .inr fun H' _ => inV_odd .non (fun z e => by cases e)
          · exact .inr fun H' _ => inV_odd (.int 0 (by decide)) (fun z e => by cases e)
          · exact .inr fun H' _ => inV_odd (.bl true) (fun z e => by cases e)
          · exact .inl ⟨_, rfl, nin _ (by decide +kernel)⟩
          · exact .inl ⟨_, rfl, decide_eq_false nk⟩
          · exact .inl ⟨_, rfl, nin _ (by decide +kernel)⟩
          · exact .inr fun H' s => inV_lst (s _ _ gl)
          · exact .inr fun H' s => inV_tup (s _ _ g8)
          · exact .inr fun H' s => inV_odd (.dic (s _ _ g9)) (fun z e => by cases e)
          · exact .inr fun H' s => inV_lst (s _ _ ga)
        refine ⟨qb, rfl, ⟨_, SqL.of gb⟩, for_list (K := K) (a := qb) (xs := [V.non, .int 0, .bl true, .str "", .str "nokind", .str "K", .ref nl, .ref q8, .ref q9, .ref qa]) (fun i σ H' => ∃ v6 : Option V, σ = [some (.ref b), some (.ref d), some (.ref nl), none, some (.ref q2), none, v6] ∧ Same Hb H') ⟨none, rfl, Same.refl _⟩ (fun i σ H' _ h => ?_) (fun i x σ H' hx h => ?_) (fun σ H' h => ?_)⟩
        · obtain ⟨_, _, e⟩ := h
          exact SqL.of (e _ _ gb)
        · obtain ⟨v6, rfl, e⟩ := h
          have g := good x (List.mem_of_getElem? hx)
          have hf : inBook rs x = false := by
            rcases g with ⟨z, _, q⟩ | g
            · exact q
            · obtain ⟨T, _, _, nz⟩ := g _ (Same.refl _)
              exact inBook_not nz
          have s0e := s0b.trans e
          refine ⟨_, rfl, _, rfl, b, dx, _, rfl, s0e _ _ hbi, b, x, rs, _, rfl, hb.same s0e, ?_, ?_⟩
          · rcases g with ⟨z, rfl, _⟩ | g
            · exact .inl ⟨z, rfl⟩
            · exact .inr (g _ e)
          · rw [hf]
            exact ⟨false, rfl, _, rfl, rfl, false, key _ _ rfl, iteF ⟨_, rfl, e⟩⟩
        · obtain ⟨v6, rfl, e⟩ := h
          have s0e := s0b.trans e
          have gle := e _ _ gl
          refine ⟨_, rfl, nl, rfl, ⟨_, SqL.of gle⟩, fun D8 nD8 => lc_it walk_list (fun i Hh => Same H' Hh ∧ ∃ ts : List Addr, Hh D8 = some (.lst (ts.map V.ref)) ∧ ts.length = i ∧ Paired (fun t u => Hh t = some (.tup (rowT u))) ts ((rowsSorted rs).take i)) ⟨Same.new nD8, [], upd_same, rfl, .nil⟩ (fun i Hh _ p => SqL.of (p.1 _ _ gle)) ?_ (fun Hz p => ?_)⟩
          · rintro i x H9 H10 hi ⟨p1, ts, hD8, hl8, hp8⟩ ⟨rfl, hx⟩
            rw [wl] at hi
            rw [List.getElem?_map] at hx
            cases hu : (rowsSorted rs)[i]? with
            | none => rw [hu] at hx; cases hx
            | some u =>
              rw [hu] at hx
              cases (Option.some.inj hx : V.str u.name = x)
              have s9 := s0e.trans p1
              have mu := (List.mergeSort_perm _ _).mem_iff.mp (List.mem_of_getElem? hu)
              refine ⟨rfl, ?_⟩
              simp only [tYes, if_true]
              refine ⟨_, rfl, b, dx, _, rfl, s9 _ _ hbi, rfl, _, rfl, b, rs, _, u, rfl, hb.same s9, mu, (ok u mu).name, fun o ko => ⟨o, u, rfl, ko, fun t nt => ⟨_, (Same.new nt) _ _ hD8, by rw [List.length_map, hl8, sizeLine_eq]; omega, (p1.trans (Same.new nt)).mut nD8, ts ++ [t], ?_, by rw [List.length_append, hl8]; rfl, ?_⟩⟩⟩
              · rw [upd_same, List.map_append]
                rfl
              · rw [List.take_add_one, hu]
                refine paired_app (paired_imp (fun t' u' z => ?_) hp8) (.cons ?_ .nil)
                · have n1 : t' ≠ D8 := fun zz => by
                    rw [zz, hD8] at z
                    cases z
                  rw [upd_ne n1]
                  exact Same.new nt _ _ z
                · have n1 : t ≠ D8 := (ne_of_none hD8 nt).symm
                  rw [upd_ne n1, upd_same]
                  rfl
          · obtain ⟨p1, ts, hD8, hl8, hp8⟩ := p
            rw [wl, List.take_length] at hp8
            have s0z := s0e.trans p1
            refine ⟨_, rfl, nl, rfl, ⟨_, SqL.of (p1 _ _ gle)⟩, fun D9 nD9 => lc_map walk_list (gAt (rowsSorted rs) fun u => (valV kvs (.inr u.name)).getD .non) nD9 (by rw [wl]; omega) (fun H'' s' => SqL.of (s' _ _ (p1 _ _ gle))) ?_ ?_⟩
            · rintro i x H11 H12 hi s11 ⟨rfl, hx⟩ R hR
              rw [List.getElem?_map] at hx
              cases hu : (rowsSorted rs)[i]? with
              | none => rw [hu] at hx; cases hx
              | some u =>
                rw [hu] at hx
                cases (Option.some.inj hx : V.str u.name = x)
                have mu := (List.mergeSort_perm _ _).mem_iff.mp (List.mem_of_getElem? hu)
                obtain ⟨a, g, ra⟩ := shop_get hk nd u mu
                have qq := hR H12 (Same.refl _)
                rw [gAt, hu] at qq
                simp only [g, Option.getD_some] at qq
                exact ⟨rfl, _, rfl, _, rfl, d, .ref a, rfl, .inl ⟨kvs, .inr u.name, .inl ((s0z.trans s11) _ _ hd), rfl, g.symm⟩, qq⟩
            · intro Hy sy hD9
              rw [wl, gAt_all] at hD9
              obtain ⟨ly, dy⟩ := rows_lay (us := rowsSorted rs) fun u hu => ok u ((List.mergeSort_perm _ _).mem_iff.mp hu)
              have shp : SeqAt.shaped (.list ((rowsSorted rs).map fun u => PyData.tuple (rowE u))) = true := by
                simp only [SeqAt.shaped, PyData.canLay0, PyData.depth, ly]
                simp
                omega
              have vals : ∀ u ∈ rowsSorted rs, ∃ a, (valV kvs (.inr u.name)).getD .non = .ref a ∧ Hy a = some (.tup (rowT u)) := fun u hu => by
                obtain ⟨a, g, ra⟩ := shop_get hk nd u ((List.mergeSort_perm _ _).mem_iff.mp hu)
                exact ⟨a, by rw [g]; rfl, (s0z.trans sy) _ _ ra⟩
              refine ⟨_, _, .lst (SqL.of (sy _ _ hD8)) (dp_rows (L2.Paired.mapP hp8 fun _ _ z => sy _ _ z)), .lst (SqL.of hD9) (dp_vals vals), shp, shp, ?_⟩
              have ev : PyData.eqv (.list ((rowsSorted rs).map fun u => PyData.tuple (rowE u))) (.list ((rowsSorted rs).map fun u => PyData.tuple (rowE u))) = true := by
                simp only [PyData.eqv]
                exact eqv_rowsA _
              rw [ev]
              exact k _ (s0z.trans sy)
end
end N

set_option maxHeartbeats 4000000
namespace L2
open PySem PySem.Spec PyProof.Rows
/-- f() of the module -/
theorem pe_has0 {X : Cx} {x : Str} {k : Nat} {ps : List Str} {sp : Sp} {p pos : Pos} (h : Has X.prog X.w X.K X.mg X.base x k ps sp) (hr : Room k X.A) (hg : Gl X x := by rfl) (hdb : (x == ("__debug__" : Str)) = false := by decide) :
    PE X (.Call (.Name x p) [] [] pos) (tCall sp [] E0 tNil) := by
  obtain ⟨f, fd, hm, hk, hb, F⟩ := h.ex
  exact pe_call0 F hr hg hm hk hb .nil pass0 hdb
end L2
namespace N
open PySem L2

def usual1 : List Row := [⟨"k", 1, 1, (some "p"), (some "k"), 1⟩, ⟨"p", 1, 1, (some "k"), (some "p"), 1⟩, ⟨"yo", 0, 1, (some "yo"), (some "yo"), 1⟩]
def usual2 : List Row := [⟨"ktog", 2, 1, (some "ptog"), (some "ssk"), 1⟩, ⟨"ssk", 2, 1, (some "ssp"), (some "ktog"), 1⟩, ⟨"cdd", 3, 1, none, (some "cdd"), 1⟩]
def usual3 : List Row := [⟨"ptog", 2, 1, (some "ktog"), (some "ssp"), 1⟩, ⟨"ssp", 2, 1, (some "ssk"), (some "ptog"), 1⟩]
def usual4 : List Row := [⟨"kfb", 1, 2, none, (some "kfb"), 1⟩, ⟨"bo", 1, 0, (some "bo"), (some "bo"), 1⟩]
def usualRows : List Row := usual1 ++ usual2 ++ usual3 ++ usual4
def keyOf (u : Row) : Key := .inr u.name
theorem kv_keys {H : Hp} {kvs : List (Key × V)} {rs : List Row} (h : Paired (KvAt H) kvs rs) : kvs.map (·.1) = rs.map keyOf := kvs_keys h
/-- a dict of rows, further rows put into it -/
theorem rows_more {H0 Hc : Hp} {d : Addr} {kvs kv2 : List (Key × V)} {rs us : List Row} (s : Same H0 Hc) (nd : H0 d = none) (hd : Hc d = some (.dK kvs)) (hk : Paired (KvAt Hc) kvs rs) (h2 : Paired (KvAt Hc) kv2 us) (no : ((rs ++ us).map keyOf).Nodup) :
    Same H0 (upd Hc d (.dK (mergeK kvs (mergeK [] kv2)))) ∧ (upd Hc d (.dK (mergeK kvs (mergeK [] kv2)))) d = some (.dK (kvs ++ kv2)) ∧ Paired (KvAt (upd Hc d (.dK (mergeK kvs (mergeK [] kv2))))) (kvs ++ kv2) (rs ++ us) := by
  have k1 := kv_keys hk
  have k2 := kv_keys h2
  rw [List.map_append, ← k1, ← k2, List.nodup_append] at no
  have m1 : mergeK [] kv2 = kv2 := by rw [mergeK_app (kvs := []) (fun _ _ _ h => nomatch h) no.2.1]; rfl
  have m2 : mergeK kvs kv2 = kvs ++ kv2 := mergeK_app (fun x hx y hy e => no.2.2 _ (List.mem_map_of_mem hy) _ (List.mem_map_of_mem hx) e) no.2.1
  rw [m1, m2]
  have up : ∀ {a : Key × V} {b : Row}, KvAt Hc a b → KvAt (upd Hc d (.dK (kvs ++ kv2))) a b := fun {a b} ⟨t, e, z⟩ => ⟨t, e, (upd_ne (fun y => by
    have z' : Hc t = some (.tup _) := z
    rw [y, hd] at z'
    cases z')).trans z⟩
  exact ⟨s.mut nd, upd_same, paired_app (paired_imp (fun _ _ => up) hk) (paired_imp (fun _ _ => up) h2)⟩
theorem Same.kv {H H' : Hp} {kvs : List (Key × V)} {rs : List Row} (e : Same H H') (h : Paired (KvAt H) kvs rs) : Paired (KvAt H') kvs rs := paired_imp (fun _ _ ⟨a, x, ra⟩ => ⟨a, x, e _ _ ra⟩) h
theorem nod1 : (usual1.map keyOf).Nodup := by decide +kernel
theorem nod2 : (usual2.map keyOf).Nodup := by decide +kernel
theorem nod3 : (usual3.map keyOf).Nodup := by decide +kernel
theorem nod4 : (usual4.map keyOf).Nodup := by decide +kernel
theorem nodu2 : ((usual1 ++ usual2).map keyOf).Nodup := by decide +kernel
theorem nodu3 : ((usual1 ++ usual2 ++ usual3).map keyOf).Nodup := by decide +kernel
theorem nodu4 : ((usual1 ++ usual2 ++ usual3 ++ usual4).map keyOf).Nodup := by decide +kernel
def kvOf (p : Addr × Row) : Key × V := (keyOf p.2, .ref p.1)
def layT : Hp → List (Addr × Row) → Hp
  | H, [] => H
  | H, p :: l => layT (upd H p.1 (.tup (rowT p.2))) l
def FreshT : Hp → List (Addr × Row) → Prop
  | _, [] => True
  | H, p :: l => H p.1 = none ∧ FreshT (upd H p.1 (.tup (rowT p.2))) l
theorem layT_facts : ∀ {l : List (Addr × Row)} {H : Hp}, FreshT H l → Same H (layT H l) ∧ ∀ p ∈ l, layT H l p.1 = some (.tup (rowT p.2))
  | [], _, _ => ⟨Same.refl _, fun _ h => nomatch h⟩
  | p :: l, H, h => by
    obtain ⟨s, a⟩ := layT_facts h.2
    refine ⟨(Same.new h.1).trans s, fun q hq => ?_⟩
    rcases List.mem_cons.mp hq with e | hq
    · subst e
      exact s _ _ upd_same
    · exact a q hq
theorem disp_rows {Hc : Hp} {o : Addr} {l : List (Addr × Row)} (no : Hc o = none) (fr : FreshT (upd Hc o (.dK [])) l) (nod : ((l.map (·.2)).map keyOf).Nodup) :
    layT (upd Hc o (.dK [])) l o = some (.dK []) ∧ mergeK [] (l.map kvOf) = l.map kvOf ∧ Same Hc (upd (layT (upd Hc o (.dK [])) l) o (.dK (mergeK [] (l.map kvOf)))) ∧
    (upd (layT (upd Hc o (.dK [])) l) o (.dK (mergeK [] (l.map kvOf)))) o = some (.dK (l.map kvOf)) ∧ Paired (KvAt (upd (layT (upd Hc o (.dK [])) l) o (.dK (mergeK [] (l.map kvOf))))) (l.map kvOf) (l.map (·.2)) := by
  obtain ⟨s, a⟩ := layT_facts fr
  have m : mergeK [] (l.map kvOf) = l.map kvOf := by
    rw [mergeK_app (kvs := []) (fun _ _ _ h => nomatch h)]
    · rfl
    · rw [List.map_map]
      rw [List.map_map] at nod
      exact nod
  have ho := s _ _ (upd_same (H := Hc) (a := o) (o := .dK []))
  rw [m]
  refine ⟨ho, rfl, ((Same.new no).trans s).mut no, upd_same, ?_⟩
  have go : ∀ {l' : List (Addr × Row)}, (∀ p ∈ l', p ∈ l) → Paired (KvAt (upd (layT (upd Hc o (.dK [])) l) o (.dK (l.map kvOf)))) (l'.map kvOf) (l'.map (·.2)) := fun {l'} => by
    induction l' with
    | nil => exact fun _ => .nil
    | cons p l' ih =>
      intro h
      refine .cons ⟨p.1, rfl, ?_⟩ (ih fun q hq => h q (.tail _ hq))
      have hp := a p (h p (.head _))
      refine (upd_ne fun z => ?_).trans hp
      rw [z, ho] at hp
      cases hp
  exact go fun _ h => h
def spUsualRows : Sp := fun vs H Q _ => vs = [] ∧ ∀ d H', H d = none → ShopAt H' d usualRows → Same H H' → Q (.ref d) H'
section
variable {P : Program} {w : World} {K : PySem.W.Frag} {mg : Str → Option Value} {base : Heap} {C CB : Addr}

theorem sc__law_usual_rows : FnScope ["_law_found"] [] (defScope s__law_usual_rows) := ⟨rfl, rfl, rfl, by decide +kernel, rfl, by decide +kernel, by decide +kernel⟩
theorem h_law_usual_rows (F : FunAt K mg "_law_usual_rows" "_law_usual_rows" s__law_usual_rows) : Has P w K mg base "_law_usual_rows" 1 [] spUsualRows := by
  refine has_of F sc__law_usual_rows (fun _ _ _ _ _ _ us hl => match us, hl with | [], _ => rfl) (fun vs H Q E h => ?_) (fun f cdv A outer s H vs Q E hr h => ?_)
  · rw [h.1]
    rfl
  · obtain ⟨rfl, k⟩ := h
    refine ⟨_, (pss_cons (ps_set (i := 0) sc__law_usual_rows.nd rfl (Or.inl rfl) (pe_disp (pps_cons pe_str (pe_tup (pa_cons pe_int (pa_cons pe_int (pa_cons pe_str (pa_cons pe_str (pa_cons pe_int pa_nil)))))) (pps_cons pe_str (pe_tup (pa_cons pe_int (pa_cons pe_int (pa_cons pe_str (pa_cons pe_str (pa_cons pe_int pa_nil)))))) (pps_cons pe_str (pe_tup (pa_cons pe_int (pa_cons pe_int (pa_cons pe_str (pa_cons pe_str (pa_cons pe_int pa_nil)))))) pps_nil))) (by rfl) (by rfl) (fun z => by cases z) (by decide)))
      (pss_cons (ps_expr (pe_bm PySem.F.plainAttrs_dict PySem.F.slot_dict_update PySem.F.type_dict_update mt_update (pv 0) (pa_cons (pe_disp (pps_cons pe_str (pe_tup (pa_cons pe_int (pa_cons pe_int (pa_cons pe_str (pa_cons pe_str (pa_cons pe_int pa_nil)))))) (pps_cons pe_str (pe_tup (pa_cons pe_int (pa_cons pe_int (pa_cons pe_str (pa_cons pe_str (pa_cons pe_int pa_nil)))))) (pps_cons pe_str (pe_tup (pa_cons pe_int (pa_cons pe_int (pa_cons pe_non (pa_cons pe_str (pa_cons pe_int pa_nil)))))) pps_nil))) (by rfl) (by rfl) (fun z => by cases z) (by decide)) pa_nil)))
      (pss_cons (ps_expr (pe_bm PySem.F.plainAttrs_dict PySem.F.slot_dict_update PySem.F.type_dict_update mt_update (pv 0) (pa_cons (pe_disp (pps_cons pe_str (pe_tup (pa_cons pe_int (pa_cons pe_int (pa_cons pe_str (pa_cons pe_str (pa_cons pe_int pa_nil)))))) (pps_cons pe_str (pe_tup (pa_cons pe_int (pa_cons pe_int (pa_cons pe_str (pa_cons pe_str (pa_cons pe_int pa_nil)))))) pps_nil)) (by rfl) (by rfl) (fun z => by cases z) (by decide)) pa_nil)))
      (pss_cons (ps_expr (pe_bm PySem.F.plainAttrs_dict PySem.F.slot_dict_update PySem.F.type_dict_update mt_update (pv 0) (pa_cons (pe_disp (pps_cons pe_str (pe_tup (pa_cons pe_int (pa_cons pe_int (pa_cons pe_non (pa_cons pe_str (pa_cons pe_int pa_nil)))))) (pps_cons pe_str (pe_tup (pa_cons pe_int (pa_cons pe_int (pa_cons pe_str (pa_cons pe_str (pa_cons pe_int pa_nil)))))) pps_nil)) (by rfl) (by rfl) (fun z => by cases z) (by decide)) pa_nil)))
      (pss_one (ps_ret (pv 0))))))), ?_⟩
    refine fun d nd => ⟨(by show 5 ≤ sizeLine; decide), fun t00 nt00 => ⟨(by show 5 ≤ sizeLine; decide), fun t01 nt01 => ⟨(by show 5 ≤ sizeLine; decide), fun t02 nt02 => ?_⟩⟩⟩
    have L0 := disp_rows (Hc := H) (o := d) (l := [(t00, ⟨"k", 1, 1, (some "p"), (some "k"), 1⟩), (t01, ⟨"p", 1, 1, (some "k"), (some "p"), 1⟩), (t02, ⟨"yo", 0, 1, (some "yo"), (some "yo"), 1⟩)]) nd ⟨nt00, nt01, nt02, trivial⟩ nod1
    refine ⟨L0.1, List.map kvOf [(t00, ⟨"k", 1, 1, (some "p"), (some "k"), 1⟩), (t01, ⟨"p", 1, 1, (some "k"), (some "p"), 1⟩), (t02, ⟨"yo", 0, 1, (some "yo"), (some "yo"), 1⟩)], rfl, (by show 3 ≤ 15; decide), ?_⟩
    generalize hH : upd (upd (upd (upd (upd H d (.dK [])) t00 _) t01 _) t02 _) d _ = M0
    have s0 : Same H M0 := by
      rw [← hH]
      exact L0.2.2.1
    have h0 : M0 d = some (.dK (List.map kvOf [(t00, ⟨"k", 1, 1, (some "p"), (some "k"), 1⟩), (t01, ⟨"p", 1, 1, (some "k"), (some "p"), 1⟩), (t02, ⟨"yo", 0, 1, (some "yo"), (some "yo"), 1⟩)])) := by
      rw [← hH]
      exact L0.2.2.2.1
    have k0 : Paired (KvAt M0) (List.map kvOf [(t00, ⟨"k", 1, 1, (some "p"), (some "k"), 1⟩), (t01, ⟨"p", 1, 1, (some "k"), (some "p"), 1⟩), (t02, ⟨"yo", 0, 1, (some "yo"), (some "yo"), 1⟩)]) usual1 := by
      rw [← hH]
      exact L0.2.2.2.2
    clear hH
    refine next_of ?_
    dsimp only
    have S0 := s0
    have D0 := h0
    have K0 := k0
    refine ⟨_, rfl, .inr (.inr (.inl ⟨rfl, .inl ⟨_, D0⟩⟩)), fun o1 no1 => ⟨(by show 5 ≤ sizeLine; decide), fun t10 nt10 => ⟨(by show 5 ≤ sizeLine; decide), fun t11 nt11 => ⟨(by show 5 ≤ sizeLine; decide), fun t12 nt12 => ?_⟩⟩⟩⟩
    have L1 := disp_rows (Hc := M0) (o := o1) (l := [(t10, ⟨"ktog", 2, 1, (some "ptog"), (some "ssk"), 1⟩), (t11, ⟨"ssk", 2, 1, (some "ssp"), (some "ktog"), 1⟩), (t12, ⟨"cdd", 3, 1, none, (some "cdd"), 1⟩)]) no1 ⟨nt10, nt11, nt12, trivial⟩ nod2
    refine ⟨L1.1, List.map kvOf [(t10, ⟨"ktog", 2, 1, (some "ptog"), (some "ssk"), 1⟩), (t11, ⟨"ssk", 2, 1, (some "ssp"), (some "ktog"), 1⟩), (t12, ⟨"cdd", 3, 1, none, (some "cdd"), 1⟩)], rfl, (by show 3 ≤ 15; decide), ?_⟩
    generalize hH : upd (upd (upd (upd (upd M0 o1 (.dK [])) t10 _) t11 _) t12 _) o1 _ = M1
    have s1 : Same M0 M1 := by
      rw [← hH]
      exact L1.2.2.1
    have h1 : M1 o1 = some (.dK (List.map kvOf [(t10, ⟨"ktog", 2, 1, (some "ptog"), (some "ssk"), 1⟩), (t11, ⟨"ssk", 2, 1, (some "ssp"), (some "ktog"), 1⟩), (t12, ⟨"cdd", 3, 1, none, (some "cdd"), 1⟩)])) := by
      rw [← hH]
      exact L1.2.2.2.1
    have k1 : Paired (KvAt M1) (List.map kvOf [(t10, ⟨"ktog", 2, 1, (some "ptog"), (some "ssk"), 1⟩), (t11, ⟨"ssk", 2, 1, (some "ssp"), (some "ktog"), 1⟩), (t12, ⟨"cdd", 3, 1, none, (some "cdd"), 1⟩)]) usual2 := by
      rw [← hH]
      exact L1.2.2.2.2
    clear hH
    have R1 := rows_more (S0.trans s1) nd (s1 _ _ D0) (Same.kv s1 K0) k1 nodu2
    rw [L1.2.1] at R1
    refine ⟨d, o1, _, _, rfl, rfl, fun z => (by rw [← z, D0] at no1; cases no1), s1 _ _ D0, h1, Nat.le_trans (by show 3 + 3 ≤ 20; decide : _ ≤ 20) (by show 20 ≤ sizeLine; decide), ?_⟩
    obtain ⟨S1, D1, K1⟩ := R1
    generalize upd M1 d _ = N1 at S1 D1 K1 ⊢
    refine next_of ?_
    dsimp only
    refine ⟨_, rfl, .inr (.inr (.inl ⟨rfl, .inl ⟨_, D1⟩⟩)), fun o2 no2 => ⟨(by show 5 ≤ sizeLine; decide), fun t20 nt20 => ⟨(by show 5 ≤ sizeLine; decide), fun t21 nt21 => ?_⟩⟩⟩
    have L2 := disp_rows (Hc := N1) (o := o2) (l := [(t20, ⟨"ptog", 2, 1, (some "ktog"), (some "ssp"), 1⟩), (t21, ⟨"ssp", 2, 1, (some "ssk"), (some "ptog"), 1⟩)]) no2 ⟨nt20, nt21, trivial⟩ nod3
    refine ⟨L2.1, List.map kvOf [(t20, ⟨"ptog", 2, 1, (some "ktog"), (some "ssp"), 1⟩), (t21, ⟨"ssp", 2, 1, (some "ssk"), (some "ptog"), 1⟩)], rfl, (by show 2 ≤ 15; decide), ?_⟩
    generalize hH : upd (upd (upd (upd N1 o2 (.dK [])) t20 _) t21 _) o2 _ = M2
    have s2 : Same N1 M2 := by
      rw [← hH]
      exact L2.2.2.1
    have h2 : M2 o2 = some (.dK (List.map kvOf [(t20, ⟨"ptog", 2, 1, (some "ktog"), (some "ssp"), 1⟩), (t21, ⟨"ssp", 2, 1, (some "ssk"), (some "ptog"), 1⟩)])) := by
      rw [← hH]
      exact L2.2.2.2.1
    have k2 : Paired (KvAt M2) (List.map kvOf [(t20, ⟨"ptog", 2, 1, (some "ktog"), (some "ssp"), 1⟩), (t21, ⟨"ssp", 2, 1, (some "ssk"), (some "ptog"), 1⟩)]) usual3 := by
      rw [← hH]
      exact L2.2.2.2.2
    clear hH
    have R2 := rows_more (S1.trans s2) nd (s2 _ _ D1) (Same.kv s2 K1) k2 nodu3
    rw [L2.2.1] at R2
    refine ⟨d, o2, _, _, rfl, rfl, fun z => (by rw [← z, D1] at no2; cases no2), s2 _ _ D1, h2, Nat.le_trans (by show 6 + 2 ≤ 20; decide : _ ≤ 20) (by show 20 ≤ sizeLine; decide), ?_⟩
    obtain ⟨S2, D2, K2⟩ := R2
    generalize upd M2 d _ = N2 at S2 D2 K2 ⊢
    refine next_of ?_
    dsimp only
    refine ⟨_, rfl, .inr (.inr (.inl ⟨rfl, .inl ⟨_, D2⟩⟩)), fun o3 no3 => ⟨(by show 5 ≤ sizeLine; decide), fun t30 nt30 => ⟨(by show 5 ≤ sizeLine; decide), fun t31 nt31 => ?_⟩⟩⟩
    have L3 := disp_rows (Hc := N2) (o := o3) (l := [(t30, ⟨"kfb", 1, 2, none, (some "kfb"), 1⟩), (t31, ⟨"bo", 1, 0, (some "bo"), (some "bo"), 1⟩)]) no3 ⟨nt30, nt31, trivial⟩ nod4
    refine ⟨L3.1, List.map kvOf [(t30, ⟨"kfb", 1, 2, none, (some "kfb"), 1⟩), (t31, ⟨"bo", 1, 0, (some "bo"), (some "bo"), 1⟩)], rfl, (by show 2 ≤ 15; decide), ?_⟩
    generalize hH : upd (upd (upd (upd N2 o3 (.dK [])) t30 _) t31 _) o3 _ = M3
    have s3 : Same N2 M3 := by
      rw [← hH]
      exact L3.2.2.1
    have h3 : M3 o3 = some (.dK (List.map kvOf [(t30, ⟨"kfb", 1, 2, none, (some "kfb"), 1⟩), (t31, ⟨"bo", 1, 0, (some "bo"), (some "bo"), 1⟩)])) := by
      rw [← hH]
      exact L3.2.2.2.1
    have k3 : Paired (KvAt M3) (List.map kvOf [(t30, ⟨"kfb", 1, 2, none, (some "kfb"), 1⟩), (t31, ⟨"bo", 1, 0, (some "bo"), (some "bo"), 1⟩)]) usual4 := by
      rw [← hH]
      exact L3.2.2.2.2
    clear hH
    have R3 := rows_more (S2.trans s3) nd (s3 _ _ D2) (Same.kv s3 K2) k3 nodu4
    rw [L3.2.1] at R3
    refine ⟨d, o3, _, _, rfl, rfl, fun z => (by rw [← z, D2] at no3; cases no3), s3 _ _ D2, h3, Nat.le_trans (by show 8 + 2 ≤ 20; decide : _ ≤ 20) (by show 20 ≤ sizeLine; decide), ?_⟩
    obtain ⟨S3, D3, K3⟩ := R3
    generalize upd M3 d _ = N3 at S3 D3 K3 ⊢
    refine next_of ?_
    dsimp only
    exact ⟨_, rfl, k d N3 nd ⟨_, D3, K3⟩ S3⟩
end
end N

set_option maxHeartbeats 4000000
/-! == of two tuples, item by item, either way it ends -/
namespace GQ
open PySem PySem.SeqAt
open AutoSeq1 (wpAny_loadPart')
open MeetsSeq MeetsSeq2 MeetsSeq3 SeqRoads2
section
variable {prog : Program} {w : World} {A : Around} {R : Result → Shared → Prop}
/-- the answer: g i is what == of the two i-th items gives -/
def TupAns (g : Nat → Bool) (m n : Nat) (res : Bool) : Prop := ((∀ i, i < m → i < n → g i = true) → res = (m == n)) ∧ ∀ i, i < m → i < n → g i = false → res = false
theorem tuple_eqB (l b : Addr) (xs ys : Array Value) (n n2 : Nat) (dd dd2 : Option Addr) (sl sl2 : Array (Option Value)) (g : Nat → Bool) (res : Bool) (ans : TupAns g xs.size ys.size res) (I : Nat → Shared → Prop)
    (step : ∀ i (p1 : i < xs.size) (p2 : i < ys.size) s, I i s → wpAny (model prog w) A.in1 (eqBool xs[i] ys[i]) (fun r s' => r = g i ∧ I (i + 1) s') (fun e s' => R (.error e) s') s)
    (stop : ∀ i s, I i s → R (.ok (.ret (.bool res))) s) {s : Shared} (hx : s.heap.get? l = some { cls := .type "tuple", dict := dd, data := .seq xs n, slots := sl }) (hy : s.heap.get? b = some { cls := .type "tuple", dict := dd2, data := .seq ys n2, slots := sl2 }) (h : I 0 s) :
    wpAny (model prog w) A.in1 (Builtin.«tuple.__eq__» ⟨[.ref l, .ref b], []⟩) (FinOf prog w A R) (fun e s' => R (.error e) s') s := by
  have f2 := AutoSeq1.sub_tuple_tuple
  have start := h
  obtain ⟨hp, gg, d, tk, os⟩ := s
  wp_walk using wpAny_loadPart' hx, wpAny_loadPart' hy, wpAny_forIn_list _ (fun rest z s' => z.1 = none ∧ ∃ i, rest = (xs.toList.zip ys.toList).drop i ∧ I i s' ∧ ∀ j, j < i → j < xs.size → j < ys.size → g j = true) _
  case turn =>
    rintro ⟨u, v⟩ rest z s' ⟨hz, i, er, hI, all⟩
    have il : i < (xs.toList.zip ys.toList).length := Nat.lt_of_not_le fun c => by
      rw [List.drop_of_length_le c] at er
      cases er
    have p1 : i < xs.size := by
      have q := il
      rw [List.length_zip] at q
      exact Nat.lt_of_lt_of_le q (Nat.min_le_left _ _)
    have p2 : i < ys.size := by
      have q := il
      rw [List.length_zip] at q
      exact Nat.lt_of_lt_of_le q (Nat.min_le_right _ _)
    rw [List.drop_eq_getElem_cons il, List.cons.injEq] at er
    obtain ⟨e1, e2⟩ := er
    have eu : u = xs[i] := by simpa using congrArg Prod.fst e1
    have ev : v = ys[i] := by simpa using congrArg Prod.snd e1
    subst eu ev
    refine wpAny_bind (wpAny_mono (step i p1 p2 s' hI) (fun r s2 q => ?_) fun _ _ x => x)
    obtain ⟨er, q⟩ := q
    subst er
    cases hg : g i with
    | true =>
      wp_walk
      refine ⟨rfl, i + 1, e2, q, fun j hj k1 k2 => ?_⟩
      by_cases z : j = i
      · rw [z]
        exact hg
      · exact all j (by omega) k1 k2
    | false =>
      have er := ans.2 i p1 p2 hg
      subst er
      have fin := stop _ _ q
      wp_walk
      exact fin
  case fin =>
    rintro ⟨z1, z2⟩ s' ⟨hz, i, er, hI, all⟩
    simp only at hz
    subst hz
    have il : (xs.toList.zip ys.toList).length ≤ i := Nat.le_of_not_lt fun c => by
      rw [List.drop_eq_getElem_cons c] at er
      cases er
    have er : res = (xs.size == ys.size) := ans.1 fun j k1 k2 => all j (by simp at il; omega) k1 k2
    have fin := stop _ _ hI
    rw [er] at fin
    wp_walk
    simpa [Builtin.Tuple.tupleCompareSizes] using fin
  case h =>
    exact ⟨rfl, 0, rfl, start, fun j hj => by omega⟩
end
section
variable {prog : Program} {w : World} {A : Around} {E : Value → Shared → Prop} {s : Shared}
theorem rc_tupB {l b : Addr} {xs ys : Array Value} {Q : Value → Shared → Prop} (hu : A.units < cLine) (g : Nat → Bool) (res : Bool) (ans : TupAns g xs.size ys.size res) (I : Nat → Shared → Prop)
    (hl : s.heap.IsTuple l xs) (hb : s.heap.IsTuple b ys)
    (step : ∀ i (p1 : i < xs.size) (p2 : i < ys.size) s, I i s → wpAny (model prog w) A.in1 (eqBool xs[i] ys[i]) (fun r s' => r = g i ∧ I (i + 1) s') E s)
    (stop : ∀ i s, I i s → Q (.bool res) s) (h : I 0 s) : wpAny (model prog w) A (richCompare .Eq (.ref l) (.ref b)) Q E s := by
  obtain ⟨⟨c1, d1, a1, s1⟩, o1, k1, n1, e1⟩ := id hl
  obtain ⟨⟨c2, d2, a2, s2⟩, o2, k2, n2, e2⟩ := id hb
  simp only at k1 e1 k2 e2
  subst k1 e1 k2 e2
  refine wpAny_richCompare_same_room (op := .Eq) ⟨_, o1, rfl⟩ ⟨_, o2, rfl⟩ F.slot_tuple_eq (call_here F.slot_tuple_eq ⟨_, o1, rfl⟩ F.entry_tuple_eq (F.args_tuple_eq_2 _ _) ?_) hu
  exact tuple_eqB (R := wants (fun v s' => v ≠ .notImplemented ∧ Q v s') E) l b xs ys n1 n2 d1 d2 s1 s2 g res ans I step (fun i s' q => ⟨(fun x => nomatch x), stop i s' q⟩) o1 o2 h
end
end GQ
namespace L2
open PySem PySem.Spec PyProof.Rows
/-- what == of two values gives, as a bool that is known -/
abbrev EqvB := V → V → Hp → Bool → Prop
def EqB (X : Cx) (n : Nat) (D : EqvB) : Prop :=
  ∀ (A : Around) (pins : List (Addr × Obj)) (s : Shared) (σ : St) (H : Hp) (x y : V) (u v : Value) (r : Bool), Sub X n A → Inv X pins σ H s → RelV x u → RelV y v → D x y H r →
    wpAny (model X.prog X.w) A (eqBool u v) (fun z s' => z = r ∧ ∃ H', Inv X pins σ H' s' ∧ Same H H') X.xe s
/-- two tuples whose items D tells of -/
def DTupB (K : PySem.W.Frag) (D : EqvB) : V → V → Hp → Bool → Prop := fun x y H r => ∃ a b xs ys g, x = .ref a ∧ y = .ref b ∧ SqT K H a xs ∧ SqT K H b ys ∧ GQ.TupAns g xs.length ys.length r ∧ ∀ (i : Nat) x y, xs[i]? = some x → ys[i]? = some y → D x y H (g i)
def MonB (D : EqvB) : Prop := ∀ x y H H' r, Same H H' → D x y H r → D x y H' r
section
variable {X : Cx} {n : Nat} {D : EqvB}
/-- x == y, two tuples -/
def rEqT (K : PySem.W.Frag) (D : EqvB) : R2 := fun x y H Q => ∃ r, DTupB K D x y H r ∧ ∀ H', Same H H' → Q (.bl r) H'
theorem op_eqT (mon : MonB D) (h : EqB X n D) (hr : Room (n + 1) X.A) : OpR X (compareOp .Eq) (rEqT X.K D) := by
  intro pins s σ H x y v u Q I rx ry hq
  obtain ⟨r, ⟨a, b, xs, ys, g, rfl, rfl, ha, hb, ans, hD⟩, q⟩ := hq
  cases rx
  cases ry
  obtain ⟨its, r1, e, z⟩ := I.tuple ha
  obtain ⟨its2, r2, e2, z2⟩ := I.tuple hb
  have l1 : its.toArray.size = xs.length := by rw [List.size_toArray, ← r1.length]
  have l2 : its2.toArray.size = ys.length := by rw [List.size_toArray, ← r2.length]
  show wpAny (model X.prog X.w) X.A (richCompare .Eq (.ref a) (.ref b)) (EP X pins σ Q) X.xe s
  refine GQ.rc_tupB hr.units0 g r (by rw [l1, l2]; exact ans) (fun _ s' => ∃ H', Inv X pins σ H' s' ∧ Same H H') e e2 (fun i p1 p2 s' z => ?_) (fun i s' z => ?_) ⟨H, I, Same.refl _⟩
  · obtain ⟨H1, I1, e1⟩ := z
    have k1 : i < xs.length := by omega
    have k2 : i < ys.length := by omega
    obtain ⟨u, hu, ru⟩ := r1.get (List.getElem?_eq_getElem k1)
    obtain ⟨v, hv, rv⟩ := r2.get (List.getElem?_eq_getElem k2)
    have g1 : its.toArray[i] = u := by
      have q1 : i < its.length := by simpa using p1
      rw [List.getElem?_eq_getElem q1] at hu
      simpa using hu
    have g2 : its2.toArray[i] = v := by
      have q1 : i < its2.length := by simpa using p2
      rw [List.getElem?_eq_getElem q1] at hv
      simpa using hv
    rw [g1, g2]
    refine wpAny_mono (h X.A.in1 pins s' σ H1 _ _ u v (g i) ⟨hr.in1, rfl⟩ I1 ru rv (mon _ _ _ _ _ e1 (hD i _ _ (List.getElem?_eq_getElem k1) (List.getElem?_eq_getElem k2)))) (fun z s2 q => ?_) fun _ _ x => x
    obtain ⟨ez, H2, I2, e2⟩ := q
    exact ⟨ez, H2, I2, e1.trans e2⟩
  · obtain ⟨H1, I1, e1⟩ := z
    exact ⟨.bl r, H1, I1, rfl, q H1 e1⟩
/-- instances of the class at C with a def for == -/
def DInsB (C : Addr) (T : Addr → Addr → Hp → Bool → Prop) : EqvB := fun x y H r => ∃ a b dx dy fs gs, x = .ref a ∧ y = .ref b ∧ H a = some (.ins C dx fs) ∧ H b = some (.ins C dy gs) ∧ T a b H r
theorem eqB_ins {C : Addr} {ps : List Str} {sp : Sp} {T : Addr → Addr → Hp → Bool → Prop} (hm : HasM X.prog X.w X.K X.mg X.base C "__eq__" n ps sp)
    (self : ∀ a H r, T a a H r → r = true) (tell : ∀ a b H r, T a b H r → ∀ Q, (∀ H', Same H H' → Q (.bl r) H') → sp [.ref a, .ref b] H Q E0) : EqB X n (DInsB C T) := by
  obtain ⟨f, fd, hM, hb, F⟩ := hm.ex
  intro A pins s σ H x y u v r sb I rx ry d
  obtain ⟨a, b, dx, dy, fs, gs, rfl, rfl, ha, hb', t⟩ := d
  cases rx
  cases ry
  by_cases hab : a = b
  · subst hab
    have e := self _ _ _ t
    subst e
    exact SeqAt.EqAt.same (A := A) (s := s) (.ref a) X.prog X.w X.xe _ ⟨rfl, H, I, Same.refl _⟩
  · refine GQ.eqBool_refG hab ?_
    obtain ⟨mA, J, _⟩ := ins_get I.hok ha
    obtain ⟨mB, J', _⟩ := ins_get I.hok hb'
    obtain ⟨od, J, _⟩ := J.look
    obtain ⟨od', J', _⟩ := J'.look
    obtain ⟨m, hF⟩ := I.fr
    refine PySem.W.cmp_K (op := .Eq) (tb := .ref C) sb.room.units0 hF I.ok.mod.kin J J'.type (by simp [PySem.W.notFirst]) hM.at_ hM.fn ?_
    have hsp := tell _ _ _ _ t (fun z H' => z = .bl r ∧ Same H H') fun H' e => ⟨rfl, e⟩
    have e0 : Env0 X.prog X.w X.K X.mg X.base A X.stack s H := by
      have e := I.env0
      exact ⟨by rw [sb.fr]; exact e.frames, e.mod, e.bs, e.bsz, e.funs, e.frf, e.hok, e.bare⟩
    refine wpAny_mono (run_under (us := [.ref a, .ref b]) (ws := [.ref a, .ref b]) F hb sb.room e0 pass0 I (.cons rfl (.cons rfl .nil)) hsp) (fun w s' z => ?_) fun _ _ x => x
    obtain ⟨z', H', I', rz, ez, ex⟩ := z
    subst ez
    cases rz
    exact ⟨r, rfl, rfl, H', I', ex⟩
theorem op_eqKind {C : Addr} {ps : List Str} {sp : Sp} (h : HasM X.prog X.w X.K X.mg X.base C "__eq__" n ps sp) (hr : Room n X.A) : OpR X (compareOp .Eq) (rCmpOwn X.K C sp E0) := by
  obtain ⟨f, fd, hm, hb, F⟩ := h.ex
  exact op_eqOwn hm.at_ hm.fn F hb hr pass0
theorem op_neKind {C : Addr} {ps : List Str} {sp : Sp} (mo : PySem.W.mroIn X.K C (.type "object") = some true) (ne : PySem.W.findIn X.K (.ref C) "__ne__" = some (some (.builtin "object.__ne__"))) (h : HasM X.prog X.w X.K X.mg X.base C "__eq__" n ps sp) (hr : Room (n + 1) X.A) : OpR X (compareOp .NotEq) (rNeOwn X.K C sp E0) := by
  obtain ⟨f, fd, hm, hb, F⟩ := h.ex
  exact op_neOwn mo ne hm.at_ hm.fn F hb hr pass0
end
end L2

set_option maxHeartbeats 4000000
namespace N
open PySem L2
instance row_dec : DecidableEq Row := fun a b => decidable_of_iff (a.name = b.name ∧ a.takes = b.takes ∧ a.makes = b.makes ∧ a.back = b.back ∧ a.mirror = b.mirror ∧ a.yarn = b.yarn) (by
  cases a; cases b
  simp)
theorem eqv_od (a b : Option Str) : PyData.eqv (od a) (od b) = decide (a = b) := by
  rw [Bool.eq_iff_iff]
  cases a <;> cases b <;> simp [od, PyData.eqv]
theorem eqv_rowD (r u : Row) : PyData.eqv (.tuple (rowD r)) (.tuple (rowD u)) = decide (r = u) := by
  rw [Bool.eq_iff_iff]
  cases r; cases u
  simp [rowD, PyData.eqv, PyData.eqvAll, eqv_od, and_assoc]
theorem ov_inj {a b : Option Str} (h : ov a = ov b) : a = b := by
  cases a <;> cases b <;> simp_all [ov]
theorem kindAt_inj {C : Addr} {H : Hp} {a : Addr} {r u : Row} (h : KindAt C H a r) (h2 : KindAt C H a u) : r = u := by
  obtain ⟨d1, e1⟩ := h
  obtain ⟨d2, e2⟩ := h2
  rw [e1] at e2
  have e := Option.some.inj e2
  cases r; cases u
  simp only [HO.ins.injEq, kf, Row.six, List.cons.injEq, Prod.mk.injEq, V.str.injEq, V.int.injEq, true_and, and_true] at e
  obtain ⟨_, e1, e2, e3, e4, e5, e6⟩ := e
  rw [e1, e2, e3, ov_inj e4, ov_inj e5, e6]
def TwoK (C : Addr) : Addr → Addr → Hp → Bool → Prop := fun a b H r => ∃ x y : Row, KindAt C H a x ∧ KindAt C H b y ∧ KindOk x ∧ KindOk y ∧ r = decide (x = y)
def sameAt (qs ws : List Row) (i : Nat) : Bool := match qs[i]?, ws[i]? with
  | some r, some u => decide (r = u)
  | _, _ => true
theorem ans_rows (qs ws : List Row) : GQ.TupAns (sameAt qs ws) qs.length ws.length (decide (qs = ws)) := by
  refine ⟨fun h => ?_, fun i h1 h2 h => ?_⟩
  · rw [Bool.eq_iff_iff]
    simp only [decide_eq_true_eq, beq_iff_eq]
    refine ⟨fun e => by rw [e], fun e => List.ext_getElem e fun i h1 h2 => ?_⟩
    have z := h i h1 h2
    simpa [sameAt, List.getElem?_eq_getElem h1, List.getElem?_eq_getElem h2] using z
  · refine decide_eq_false fun e => ?_
    subst e
    simp [sameAt, List.getElem?_eq_getElem h1] at h
def spEqB (K : PySem.W.Frag) (CB C : Addr) : Sp := fun vs H Q _ => ∃ (a : Addr) (o : V) (rs qs : List Row), vs = [.ref a, o] ∧ BookAt CB C H a rs qs ∧ (∀ r ∈ qs, KindOk r) ∧
  ((∃ b us ws, o = .ref b ∧ BookAt CB C H b us ws ∧ (∀ u ∈ ws, KindOk u) ∧ ∀ H', Same H H' → Q (.bl (decide (qs = ws))) H') ∨ ∃ T, TyX K H o (.type T) ∧ PySem.W.subIn K (.type T) (.ref CB) = some false ∧ Q (.bl false) H)
section
variable {P : Program} {w : World} {K : PySem.W.Frag} {mg : Str → Option Value} {base : Heap} {C CB : Addr} {Cs : Nat → Addr}
theorem mon_two : MonB (DInsB C (TwoK C)) := fun x y H H' r e d => by
  obtain ⟨a, b, dx, dy, fs, gs, hx, hy, h1, h2, x, y, k1, k2, z⟩ := d
  exact ⟨a, b, dx, dy, fs, gs, hx, hy, e _ _ h1, e _ _ h2, x, y, k1.same e, k2.same e, z⟩
theorem eqB_kind {X : Cx} (h : HasM X.prog X.w X.K X.mg X.base C "__eq__" 4 ["self", "other"] (spEqK X.K C)) : EqB X 4 (DInsB C (TwoK C)) := by
  refine eqB_ins h (fun a H r t => ?_) (fun a b H r t Q q => ?_)
  · obtain ⟨x, y, k1, k2, _, _, e⟩ := t
    rw [e, kindAt_inj k1 k2]
    exact decide_eq_true rfl
  · obtain ⟨x, y, k1, k2, o1, o2, rfl⟩ := t
    exact ⟨a, .ref b, x, rfl, k1, o1, .inl ⟨b, y, rfl, k2, o2, fun H' s => by rw [eqv_rowD]; exact q H' s⟩⟩
abbrev s_Book___eq__ : Stmt := inClass (top 27) 15
theorem sc_BookD_eqD : FnScope ["self", "other"] ["self", "other"] (defScope s_Book___eq__) := ⟨rfl, rfl, rfl, by decide +kernel, rfl, by decide +kernel, by decide +kernel⟩
theorem m_eqB (B : Blts mg) (U : BookT K mg CB) (F : MethAt K CB "__eq__" "Book.__eq__" s_Book___eq__) (m_eqK : HasM P w K mg base C "__eq__" 4 ["self", "other"] (spEqK K C)) : HasM P w K mg base CB "__eq__" 6 ["self", "other"] (spEqB K CB C) := by
  refine hasM_of F sc_BookD_eqD (fun _ _ _ _ _ _ us hl => match us, hl with | [_, _], _ => rfl) (fun vs H Q E h => ?_) (fun f cdv A outer s H vs Q E hr h => ?_)
  · obtain ⟨_, _, _, _, rfl, _⟩ := h
    rfl
  · obtain ⟨a, o, rs, qs, rfl, hb, ok, ho⟩ := h
    refine ⟨_, (pss_one (ps_ret (pe_and (pe_callB call_isi (by rfl) B.n_isinstance (by decide +kernel) (pa_cons (pv 1) (pa_cons (pe_glob (v := .ref CB) rfl U.g rfl) pa_nil))) (pe_one (pe_cmpR (op_eqT (D := DInsB C (TwoK C)) mon_two (eqB_kind m_eqK) (hr.mono (by decide))) (pe_fld (pv 0) rfl) (pe_fld (pv 1) rfl) (by first | exact nomark _ | rfl)))))), ?_⟩
    rcases ho with ⟨b, us, ws, rfl, hb2, ok2, k⟩ | ⟨T', hT, hs, q⟩
    · obtain ⟨d1, t1, e1, as1, bs1, ha1, ht1, hp1, _⟩ := id hb
      obtain ⟨d2, t2, e2, as2, bs2, ha2, ht2, hp2, _⟩ := id hb2
      refine ⟨_, rfl, _, _, _, _, true, rfl, .own CB, U.own.ty ha2, kit_self, true, rfl, ?_⟩
      refine iteT ?_
      have l1 := paired_len hp1
      have l2 := paired_len hp2
      refine ⟨_, rfl, a, CB, d1, _, _, rfl, ha1, U.cl, U.nk, rfl, _, rfl, b, CB, d2, _, _, rfl, ha2, U.cl, U.nk, rfl, decide (qs = ws), ⟨t1, t2, _, _, sameAt qs ws, rfl, rfl, SqT.of ht1, SqT.of ht2, ?_, fun i x y hx hy => ?_⟩, k⟩
      · rw [List.length_map, List.length_map, l1, l2]
        exact ans_rows qs ws
      · obtain ⟨x', hx', rfl⟩ := map_at hx
        obtain ⟨y', hy', rfl⟩ := map_at hy
        obtain ⟨r, hr', k1⟩ := paired_get hp1 hx'
        obtain ⟨u, hu', k2⟩ := paired_get hp2 hy'
        obtain ⟨dx, k1'⟩ := id k1
        obtain ⟨dy, k2'⟩ := id k2
        refine ⟨x', y', dx, dy, _, _, rfl, rfl, k1', k2', r, u, k1, k2, ok r (List.mem_of_getElem? hr'), ok2 u (List.mem_of_getElem? hu'), ?_⟩
        rw [sameAt, hr', hu']
    · refine ⟨_, rfl, _, _, _, _, false, rfl, .own CB, hT, U.own.kit hs, false, rfl, ?_⟩
      refine iteF ?_
      exact q
end
end N

set_option maxHeartbeats 4000000
/-! cls(*y), cls a slot that holds a class; C.m() of a classmethod -/
namespace L2
open PySem PySem.Spec PyProof.Rows
section
variable {X : Cx} {CX : CXT} {k i : Nat} {C f p g : Addr} {mc : Value} {sp : Sp} {E : XK} {o e : Expr} {x m : Str} {pos apos np sp_ : Pos} {ta te : TE} {pl : Sem Bool}
theorem pe_makeLS (M : Mk X.K C f) (F : FnR X.prog X.w X.K X.mg X.base CX k f sp) (hr : Room (k + 1) X.A) (hN : X.N[i]? = some x) (hv : Vis X.env.scope x) (hx : Passes CX X E) (he : PE X e te)
    (hdb : (x == ("__debug__" : Str)) = false := by decide) (hcd : (x == ("__classdict__" : Str)) = false := by decide) (hst : starEach [.Starred e sp_] X.env = [(true, eval e X.env)] := by rfl) :
    PE X (.Call (.Name x np) [.Starred e sp_] [] pos) (fun σ H Q => σ[i]? = some (some (.ref C)) ∧ te σ H fun y H1 => ∃ a xs, y = V.ref a ∧ (SqT X.K H1 a xs ∨ SqL X.K H1 a xs) ∧ ∀ z dx, H1 z = Option.none → H1 dx = Option.none → dx ≠ z →
      sp (V.ref z :: xs) (upd (upd H1 dx (.own z)) z (.ins C dx [])) (fun v H2 => v = .non ∧ Q (.ref z) H2) E) := by
  refine ⟨fun pins s σ H Q I h => ?_⟩
  obtain ⟨hs, ht⟩ := h
  refine wpAny_Call_Name_kw (thn ((pe_var (pos := np) hN hv hdb hcd).run pins s σ H (fun v H1 => v = .ref C ∧ H1 = H) I ⟨.ref C, hs, rfl, rfl⟩) fun u s1 z => ?_)
  obtain ⟨v, H1, I1, r1, rfl, rfl⟩ := z
  cases r1
  refine PySem.W.callWith_S (h₀ := X.base) I.ok.mod.kin M.kp (thn (he.run pins s1 σ _ _ I1 ht) fun v s2 z => ?_) hst
  obtain ⟨y, H2, I2, ry, a, xs, ey, hxs, q⟩ := z
  subst ey
  obtain rfl : v = Value.ref a := ry
  exact StX.star_any I2 hxs fun us s3 I3 rv => ⟨I3.kIn, StX.run_makeR M F hr hx I3 rv q⟩
theorem pe_cmeth0 (he : PE X o ta) (r : ClX.CRead X.K C mc) (c : ClX.CMet X.K C mc m p g) (F : FnR X.prog X.w X.K X.mg X.base CX k g sp) (hr : Room k X.A) (hx : Passes CX X E)
    (ht : eval (.Call (.Attribute o m apos) [] [] pos) X.env = (do
      let ov ← eval o X.env
      standAt apos.atName
      let (f, first) ← holding [ov] (getMethod ov m pl)
      callWith pos f first (backTo pos (starEach [] X.env)) (backToKw pos (keywordEach [] X.env))) := by rfl) :
    PE X (.Call (.Attribute o m apos) [] [] pos) (fun σ H Q => ta σ H fun x H1 => x = V.ref C ∧ sp [V.ref C] H1 Q E) := by
  refine ⟨fun pins s σ H Q I h => ?_⟩
  refine PySem.W.methodCall_KW (pl := pl) (thn (he.run pins s σ H _ I h) fun u s1 z => ?_) ht
  obtain ⟨x, H1, I1, rx, ex, q⟩ := z
  subst ex
  obtain rfl : u = Value.ref C := rx
  refine ClX.getmethcm_ok I1 r c fun s2 I2 => ?_
  exact PySem.W.callWith_M0 ⟨ClX.pin_at I2, I2.kIn⟩ c.fi (ClX.run_cm F hr hx I2 .nil q)
end
end L2

set_option maxHeartbeats 4000000
namespace N
open PySem L2
/-- the kinds of the usual book, in the sequence of the package's table -/
def usualK : List Row := [⟨"k", 1, 1, some "p", some "k", 1⟩, ⟨"p", 1, 1, some "k", some "p", 1⟩, ⟨"yo", 0, 1, some "yo", some "yo", 1⟩, ⟨"ktog", 2, 1, some "ptog", some "ssk", 1⟩, ⟨"ssk", 2, 1, some "ssp", some "ktog", 1⟩,
  ⟨"ptog", 2, 1, some "ktog", some "ssp", 1⟩, ⟨"ssp", 2, 1, some "ssk", some "ptog", 1⟩, ⟨"cdd", 3, 1, none, some "cdd", 1⟩, ⟨"kfb", 1, 2, none, some "kfb", 1⟩, ⟨"bo", 1, 0, some "bo", some "bo", 1⟩]
theorem usual_perm : usualRows.Perm usualK := by decide +kernel
theorem usual_nodup : (usualK.map (·.name)).Nodup := by decide +kernel
theorem usual_yarn : ∀ u ∈ usualK, u.yarn = 1 := by decide +kernel
theorem usual_names : ∀ u ∈ usualK, NameOk u.name := by decide +kernel
theorem usual_ok : ∀ u ∈ usualK, KindOk u := by
  have nm := usual_names
  have tw : ∀ u ∈ usualK, (∀ x ∈ u.back, x ∈ usualK.map (·.name)) ∧ (∀ x ∈ u.mirror, x ∈ usualK.map (·.name)) := by decide +kernel
  have nb : ∀ u ∈ usualK, (0 ≤ u.takes ∧ u.takes ≤ 6) ∧ (0 ≤ u.makes ∧ u.makes ≤ 6) ∧ ¬ (u.takes = 0 ∧ u.makes = 0) ∧ (0 ≤ u.yarn ∧ u.yarn ≤ 999) := by decide +kernel
  intro u hu
  obtain ⟨a, b, c, d⟩ := nb u hu
  have up : ∀ {x : Str}, x ∈ usualK.map (·.name) → NameOk x := fun h => by
    obtain ⟨v, hv, rfl⟩ := List.mem_map.mp h
    exact nm v hv
  exact ⟨nm u hu, fun x e => up ((tw u hu).1 x e), fun x e => up ((tw u hu).2 x e), a, b, c, d⟩
theorem usual_fit : FitOk usualK := by
  have h : ∀ r ∈ usualK, (∀ x ∈ r.back, ∃ u ∈ usualK, u.name = x ∧ u.back = some r.name ∧ u.takes = r.takes ∧ u.makes = r.makes) ∧ (∀ x ∈ r.mirror, ∃ u ∈ usualK, u.name = x ∧ u.mirror = some r.name ∧ u.takes = r.takes ∧ u.makes = r.makes) ∧
      ∀ x ∈ r.back, ∀ y ∈ r.mirror, ∃ u ∈ usualK, ∃ w ∈ usualK, u.name = x ∧ w.name = y ∧ u.mirror ≠ none ∧ u.mirror = w.back := by decide +kernel
  exact ⟨fun r hr x e => (h r hr).1 x e, fun r hr x e => (h r hr).2.1 x e, fun r hr x y e1 e2 => (h r hr).2.2 x e1 y e2⟩
structure UsualT (K : PySem.W.Frag) (mg : Str → Option Value) : Prop where
  ex : ∃ (aU : Addr) (ts : List Addr), mg "_USUAL" = some (.ref aU) ∧ (∀ H, SqT K H aU (ts.map V.ref)) ∧ Paired (fun t (u : Row) => ∀ H, SqT K H t [.str u.name, .int u.takes, .int u.makes, ov u.back, ov u.mirror]) ts usualK
structure ClsAt (K : PySem.W.Frag) (C : Addr) (mc : Value) (m qual : Str) (st : Stmt) (p g : Addr) : Prop where
  ex : ∃ fd : FuncData, ClX.CMet K C mc m p g ∧ Fun K m qual st g fd
def spUsual (CB C : Addr) (T : List (Addr × Str)) : Sp := fun vs H Q _ => vs = [.ref CB] ∧ LamX.Tabs T H ∧ ∀ b H', H b = none → LamX.ExtN H H' → LamX.Tabs T H' → BookAt CB C H' b usualK (rowsSorted usualK) → Q (.ref b) H'
section
variable {P : Program} {w : World} {K : PySem.W.Frag} {mg : Str → Option Value} {base : Heap} {C CB : Addr} {Cs : Nat → Addr}
/-- Kind(n, t, m, back=b, mirror=i) -/
theorem hKind2 (B : Blts mg) (G : Globs mg) (T : KindT K mg C Cs) (I : InitAt K mg "Kind" C "Kind.__init__" s_Kind___init__ [] [("back", .non), ("mirror", .non), ("yarn", .int 1)])
    (his_name : Has P w K mg base "is_name" 1 ["value"] spIsName) (his_count_to : Has P w K mg base "is_count_to" 3 ["value", "most"] spCountTo) :
    MakX P w K mg base "Kind" C 4 3 ["self", "name", "takes", "makes", "back", "mirror", "yarn"] ["back", "mirror"] (spKind C Cs) (fun vs zs => vs ++ (zs ++ [.int 1])) := by
  obtain ⟨f, fd, hm, M, F⟩ := I.ex
  obtain ⟨mv, hb⟩ := F.kbinds0 (ps := ["self", "name", "takes", "makes", "back", "mirror", "yarn"]) 4 ["back", "mirror"] [("yarn", .int 1)] (fun us ms ws => us ++ (ws ++ ms)) (by simp) (fun q h => by simp at h; subst h; simp) (fun a b c => a.append (c.append b))
    (fun D doc pm an cdv ct us mv ws hu hm hw => match us, mv, ws, hu, hm, hw with | [_, _, _, _], [_], [_, _], _, _, _ => ⟨_, _, _, _, _, _, rfl, rfl, rfl⟩)
  exact ⟨f, fd, _, hm, M, hb, ok_kind B G T F his_name his_count_to⟩
/-- Kind(n, t, m, back=b) -/
theorem hKind1 (B : Blts mg) (G : Globs mg) (T : KindT K mg C Cs) (I : InitAt K mg "Kind" C "Kind.__init__" s_Kind___init__ [] [("back", .non), ("mirror", .non), ("yarn", .int 1)])
    (his_name : Has P w K mg base "is_name" 1 ["value"] spIsName) (his_count_to : Has P w K mg base "is_count_to" 3 ["value", "most"] spCountTo) :
    MakX P w K mg base "Kind" C 4 3 ["self", "name", "takes", "makes", "back", "mirror", "yarn"] ["back"] (spKind C Cs) (fun vs zs => vs ++ (zs ++ [.non, .int 1])) := by
  obtain ⟨f, fd, hm, M, F⟩ := I.ex
  obtain ⟨mv, hb⟩ := F.kbinds0 (ps := ["self", "name", "takes", "makes", "back", "mirror", "yarn"]) 4 ["back"] [("mirror", .non), ("yarn", .int 1)] (fun us ms ws => us ++ (ws ++ ms)) (by simp) (fun q h => by simp at h; rcases h with h | h <;> subst h <;> simp) (fun a b c => a.append (c.append b))
    (fun D doc pm an cdv ct us mv ws hu hm hw => match us, mv, ws, hu, hm, hw with | [_, _, _, _], [_, _], [_], _, _, _ => ⟨_, _, _, _, _, _, rfl, rfl, _, _, _, _, _, _, rfl, rfl, rfl⟩)
  exact ⟨f, fd, _, hm, M, hb, ok_kind B G T F his_name his_count_to⟩
abbrev s_Book_usual : Stmt := inClass (top 27) 1
theorem sc_Book_usual : FnScope ["cls", "kinds", "name", "takes", "makes", "back", "mirror"] ["cls"] (defScope s_Book_usual) := ⟨rfl, rfl, rfl, by decide +kernel, rfl, by decide +kernel, by decide +kernel⟩
theorem c_usual {mc : Value} {p g fB : Addr} {T : List (Addr × Str)} (B : Blts mg) (KT : KindT K mg C Cs) (U : BookT K mg CB) (UT : UsualT K mg) (F : ClsAt K CB mc "usual" "Book.usual" s_Book_usual p g)
    (hKind2 : MakX P w K mg base "Kind" C 4 3 ["self", "name", "takes", "makes", "back", "mirror", "yarn"] ["back", "mirror"] (spKind C Cs) (fun vs zs => vs ++ (zs ++ [.int 1])))
    (MB : Mk K CB fB) (FB : FnR P w K mg base CX0 6 fB (fun vs H Q E => ∃ ws rest, vs = ws ++ rest ∧ ws.length = (["self"] : List Str).length ∧ rest.length ≤ sizeLine ∧ ∀ p, H p = Option.none → spBInit CB C T (ws ++ [V.ref p]) (upd H p (.tup rest)) Q E)) :
    FnR P w K mg base CX0 8 g (spUsual CB C T) := by
  obtain ⟨fd, hc, Fu⟩ := F.ex
  obtain ⟨aU, ts, hmU, hU, hT⟩ := UT.ex
  have ok : FnOk P w K mg base CX0 8 g fd ["cls"] (spUsual CB C T) := by
    refine Fu.ok sc_Book_usual (fun vs H Q E h => ?_) (fun cdv A outer s H vs Q E hr h => ?_)
    · rw [h.1]
      rfl
    · obtain ⟨rfl, hTb, k⟩ := h
      have go : ∃ t', PSs (cxOf CX0 P w K mg base ["cls", "kinds", "name", "takes", "makes", "back", "mirror"] "Book.usual" (defScope s_Book_usual) g cdv A outer s H E).nox (defBody s_Book_usual) t' ∧ t' { nx := fun _ H' => Q .non H', rt := Q } (start ["cls", "kinds", "name", "takes", "makes", "back", "mirror"] [.ref CB]) H := by
        refine ⟨_, (pss_cons (ps_setLc (i := 1) (own := [("name", 2), ("takes", 3), ("makes", 4), ("back", 5), ("mirror", 6)]) rfl sc_Book_usual.nd rfl rfl (sw_true rfl rfl rfl (by decide +kernel)) (pi_tup (pe_glob (v := .ref aU) rfl hmU rfl)) (blkOk_by (own := [("name", 2), ("takes", 3), ("makes", 4), ("back", 5), ("mirror", 6)]) (N := ["cls", "kinds", "name", "takes", "makes", "back", "mirror"]) (sc := defScope s_Book_usual) (by decide +kernel)) (fun _ _ _ _ _ => by exact (pg_tupK K 5 rfl rfl (pgs_cons (pg_name (i := 2) sc_Book_usual.nd rfl (Or.inl rfl)) (pgs_cons (pg_name (i := 3) sc_Book_usual.nd rfl (Or.inl rfl)) (pgs_cons (pg_name (i := 4) sc_Book_usual.nd rfl (Or.inl rfl)) (pgs_cons (pg_name (i := 5) sc_Book_usual.nd rfl (Or.inl rfl)) (pgs_cons (pg_name (i := 6) sc_Book_usual.nd rfl (Or.inl rfl)) pgs_nil))))))) (fun _ _ _ _ _ => by exact pts_nil) (fun _ _ _ _ _ => by exact (pe_makX hKind2 (hr.mono (by decide)) passL (pa_cons (pv 2) (pa_cons (pv 3) (pa_cons (pv 4) pa_nil))) (pk_cons (pv 5) (pk_cons (pv 6) pk_nil)))))
          (pss_one (ps_ret (pe_makeLS (i := 0) MB FB (hr.mono (by decide)) rfl (Or.inl rfl) pass0 (pv 1))))), ?_⟩
        have lt : ts.length = 10 := (paired_len hT).trans rfl
        refine ⟨aU, rfl, ⟨_, hU _⟩, fun D nD => lc_it walk_tup (fun i Hh => Same H Hh ∧ ∃ as : List Addr, Hh D = some (.lst (as.map V.ref)) ∧ as.length = i ∧ Paired (KindAt C Hh) as (usualK.take i)) ⟨Same.new nD, [], upd_same, rfl, .nil⟩ (fun i Hh _ p => hU _) ?_ (fun Hz p => ?_)⟩
        · rintro i x H1 H2 hi ⟨p1, as, hD, hl, hp⟩ ⟨rfl, hx⟩
          rw [List.length_map] at hi
          obtain ⟨q, hq, rfl⟩ := map_at hx
          obtain ⟨u, hu, ht⟩ := paired_get hT hq
          have mu := List.mem_of_getElem? hu
          have oku := usual_ok u mu
          have y1 := usual_yarn u mu
          have nf : u.six.fault = none := Row.sound oku
          refine ⟨q, _, rfl, ht _, rfl, _, _, rfl, _, _, rfl, _, _, rfl, _, _, rfl, _, _, rfl, rfl, rfl, ?_⟩
          simp only [tYes, if_true]
          refine ⟨_, rfl, _, rfl, _, rfl, _, rfl, _, rfl, rfl, rfl, fun z dz hz hdz ne => ?_⟩
          refine ⟨z, dz, u.six, ?_, upd_same, Row.odd oku _, fun _ H3 hkz e3 => ⟨rfl, ?_⟩, fun kk v hf => (by rw [nf] at hf; cases hf)⟩
          · show _ = V.ref z :: [V.str u.name, V.int u.takes, V.int u.makes, ov u.back, ov u.mirror, V.int u.yarn]
            rw [y1]
            rfl
          have s3 : Same H2 H3 := made_same hz hdz e3
          have hD3 := s3 _ _ hD
          have zD : z ≠ D := (ne_of_none hD hz).symm
          refine ⟨_, hD3, ?_, (p1.trans s3).mut nD, as ++ [z], ?_, by rw [List.length_append, hl]; rfl, ?_⟩
          · rw [List.length_map, hl, sizeLine_eq]
            omega
          · rw [upd_same, List.map_append]
            rfl
          · rw [List.take_add_one, hu]
            refine paired_app (paired_imp (fun a v ⟨da, k1⟩ => ⟨da, (upd_ne fun e => ?_).trans (s3 _ _ k1)⟩) hp) (.cons ⟨dz, (upd_ne zD).trans hkz⟩ .nil)
            rw [e, hD] at k1
            cases k1
        · obtain ⟨p1, as, hD, hl, hp⟩ := p
          rw [List.length_map, lt] at hl hp
          rw [show usualK.take 10 = usualK from rfl] at hp
          refine next_of ?_
          dsimp only
          refine ⟨rfl, _, rfl, D, _, rfl, .inr (SqL.of hD), fun z dz hz hdz ne => ?_⟩
          refine ⟨[V.ref z], as.map V.ref, rfl, rfl, ?_, fun t nt => ?_⟩
          · rw [List.length_map, hl]
            show 10 ≤ sizeLine
            decide
          have s7 := (made_odd (C := CB) hz hdz ne).trans (Same.new (o := .tup (as.map V.ref)) nt)
          have s8 := p1.trans s7
          have nz : H z = none := by
            cases e : H z with
            | none => rfl
            | some o =>
              rw [p1 _ _ e] at hz
              cases hz
          refine ⟨z, dz, t, as, usualK, rfl, (upd_ne (ne_of_none upd_same nt)).trans upd_same, upd_same, paired_imp (fun _ _ k1 => k1.same s7) hp, usual_fit, usual_nodup, ?_, by rw [hl]; decide, fun p hp => (hTb p hp).ext s8, fun H' nbx hT' bk => ⟨rfl, k z H' nz (fun a o ha n => nbx a o (ne_of_none ha nz) (s8 _ _ ha) n) hT' bk⟩⟩
          intro e
          rw [e] at hl
          cases hl
      obtain ⟨t', h1, h2⟩ := go
      exact ⟨t', h1, h2⟩
  exact (ok.raw (Fu.binds (fun _ _ _ _ _ _ us hl => match us, hl with | [_], _ => rfl)) .nil).imp fun vs H Q E h => by rw [List.append_nil]; exact h
end
end N

set_option maxHeartbeats 4000000
namespace N
open PySem L2
/-! ### what is no word, and no name -/
def ItemTy (K : PySem.W.Frag) (H : Hp) (x : V) : Prop := (∃ z : Str, x = .str z) ∨ ∃ T, TyX K H x (.type T) ∧ kitB T "str" = some false ∧ ∀ z, x ≠ .str z
def NoWord (K : PySem.W.Frag) (H : Hp) (rs : List Row) (v : V) : Prop := (∃ T, TyX K H v (.type T) ∧ kitB T "tuple" = some false) ∨ ∃ l xs, v = .ref l ∧ H l = some (.tup xs) ∧ xs.length ≤ 1000 ∧
  (240 < xs.length ∨ xs.length ≤ 240 ∧ (∀ H', Same H H' → ∀ x ∈ xs, ItemTy K H' x) ∧ ∃ x ∈ xs, inBook rs x = false)
def spNotWord (K : PySem.W.Frag) (CB C : Addr) : Sp := fun vs H Q _ => ∃ (a : Addr) (v : V) (rs qs : List Row), vs = [.ref a, v] ∧ BookAt CB C H a rs qs ∧ NoWord K H rs v ∧ ∀ H', Same H H' → Q (.bl false) H'
def spOddX (K : PySem.W.Frag) (CB C CW : Addr) : Sp := fun vs H Q E => ∃ (a : Addr) (v : V) (rs qs : List Row), vs = [.ref a, v] ∧ BookAt CB C H a rs qs ∧ NoWord K H rs v ∧ ∀ d H', Same H H' → H' d = some (.xd [("value", v)]) → E (.ref CW) (some d) H'
def spKindX (K : PySem.W.Frag) (CB C CU : Addr) : Sp := fun vs H Q E => ∃ (a : Addr) (v : V) (rs qs : List Row), vs = [.ref a, v] ∧ BookAt CB C H a rs qs ∧ ItemTy K H v ∧ inBook rs v = false ∧ ∀ d H', Same H H' → H' d = some (.xd [("name", v)]) → E (.ref CU) (some d) H'
abbrev WoC (K : PySem.W.Frag) (mg : Str → Option Value) (C : Addr) (st : Stmt) : Prop := ErrC K mg "InvalidWord" "value" C st "InvalidWord.__init__"
section
variable {P : Program} {w : World} {K : PySem.W.Frag} {mg : Str → Option Value} {base : Heap} {C CB CW CU : Addr} {Cs : Nat → Addr}
theorem m_is_wordX (B : Blts mg) (U : BookT K mg CB) (F : MethAt K CB "is_word" "Book.is_word" s_Book_is_word) : HasM P w K mg base CB "is_word" 1 ["self", "value"] (spNotWord K CB C) := by
  obtain ⟨_, g_MOST_NAMES⟩ := U.names
  refine hasM_of F sc_Book_is_word (fun _ _ _ _ _ _ us hl => match us, hl with | [_, _], _ => rfl) (fun vs H Q E h => ?_) (fun f cdv A outer s H vs Q E hr h => ?_)
  · obtain ⟨_, _, _, _, rfl, _⟩ := h
    rfl
  · obtain ⟨a, v, rs, qs, rfl, hb, hv, k⟩ := h
    obtain ⟨dx, t, d, as, bs, ha, ht, hbs, hd, has, nd⟩ := id hb
    refine ⟨_, (pss_cons (ps_if (PW.pt (pw_or (pt_not (pt_val (pe_callB call_isi (by rfl) B.n_isinstance (by decide +kernel) (pa_cons (pv 1) (pa_cons (pe_bltn (v := .ty "tuple") (u := .type "tuple") rfl B.n_tuple (by decide +kernel) rfl) pa_nil))))) (pw_or1 (pt_cmpR op_gt (pe_callB call_len (by rfl) B.n_len PySem.boot_len (pa_cons (pv 1) pa_nil)) (pe_glob (v := .int 240) rfl g_MOST_NAMES ⟨_, rfl⟩) (by first | exact nomark _ | rfl))))) (pss_one (ps_ret pe_bl))
        pss_nil)
      (pss_cons (ps_set (i := 2) sc_Book_is_word.nd rfl (Or.inr rfl) (pe_fld (pv 0) rfl))
      (pss_one (ps_ret (pe_callB (cr_all rfl) (by rfl) B.n_all (by decide +kernel) (pa_cons (pe_lc (own := [("name", 3)]) rfl sc_Book_is_word.nd (pi_tup (pv 1)) (blkOk_by (own := [("name", 3)]) (N := ["self", "value", "table", "name"]) (sc := defScope s_Book_is_word) (by decide +kernel)) (fun _ _ _ _ _ => by exact (pg_name (i := 3) sc_Book_is_word.nd rfl (Or.inl rfl))) (fun _ _ _ _ _ => by exact pts_nil) (fun _ _ _ _ _ => by exact (pe_and (pe_callB (call_isiF K) (by rfl) B.n_isinstance (by decide +kernel) (pa_cons (pv 3) (pa_cons (pe_bltn (v := .ty "str") (u := .type "str") rfl B.n_str (by decide +kernel) rfl) pa_nil))) (pe_one (pe_cmp (pc_din hr.u1 (pv 3) (pv 2))))))) pa_nil)))))), ?_⟩
    rcases hv with ⟨T, ty, kt⟩ | ⟨l, xs, rfl, hl, h1000, hv⟩
    · refine ⟨_, rfl, _, _, _, _, _, rfl, .ty _, ty, kit_b kt, _, rfl, iteT ?_⟩
      exact k _ (Same.refl _)
    · have tt : kitB "tuple" "tuple" = some true := by decide +kernel
      have ts : kitB "str" "str" = some true := by decide +kernel
      refine ⟨_, rfl, _, _, _, _, _, rfl, .ty _, .base (.tup hl), kit_b tt, _, rfl, iteF ?_⟩
      refine ⟨_, rfl, _, xs.length, rfl, .inr ⟨_, SqT.of hl, rfl⟩, _, _, rfl, rfl, _, rfl, ite2 (fun c => ?_) (fun c => ?_)⟩
      · exact k _ (Same.refl _)
      rcases hv with hv | ⟨h240, items, x0, m0, f0⟩
      · exact absurd (decide_eq_true (by omega)) c
      refine next_of ?_
      dsimp only
      refine ⟨_, rfl, a, CB, dx, _, _, rfl, ha, U.cl, U.nt, rfl, ?_⟩
      refine next_of ?_
      dsimp only
      refine ⟨_, rfl, l, rfl, ⟨_, SqT.of hl⟩, fun D nD => lc_map walk_tup (fun i => .bl (match xs[i]? with | some x => inBook rs x | none => true)) nD (by omega) (fun H' s' => SqT.of (s' _ _ hl)) ?_ ?_⟩
      · rintro i x H1 H2 hi s1 ⟨rfl, hx⟩ R hR
        have q := hR H2 (Same.refl _)
        simp only [hx] at q
        refine ⟨rfl, ?_⟩
        rcases items H2 s1 x (List.mem_of_getElem? hx) with ⟨z, rfl⟩ | ⟨T, ty, ks, nz⟩
        · refine ⟨_, rfl, _, _, _, _, _, rfl, .ty _, .base (.str _), kit_b ts, _, rfl, iteT ?_⟩
          by_cases hz : z ∈ rs.map (·.name)
          · obtain ⟨u, hu, rfl⟩ := List.mem_map.mp hz
            have gb := (kAt_is has nd hu).1
            have e : inBook rs (.str u.name) = true := decide_eq_true hz
            rw [e] at q
            exact ⟨_, rfl, _, rfl, d, some (.ref _), rfl, .inl ⟨_, .inr u.name, .inl (s1 _ _ hd), rfl, gb.symm⟩, q⟩
          · have e : inBook rs (.str z) = false := decide_eq_false hz
            rw [e] at q
            exact ⟨_, rfl, _, rfl, d, none, rfl, .inl ⟨_, .inr z, .inl (s1 _ _ hd), rfl, (tab_none hz).symm⟩, q⟩
        · refine ⟨_, rfl, _, _, _, _, _, rfl, .ty _, ty, kit_b ks, _, rfl, iteF ?_⟩
          rw [inBook_not nz] at q
          exact q
      · intro H1 s1 hD
        refine ⟨D, (List.range xs.length).map (fun i => match xs[i]? with | some x => inBook rs x | none => true), rfl, SqL.of (by rw [List.map_map]; exact hD), ?_⟩
        have e : ((List.range xs.length).map (fun i => match xs[i]? with | some x => inBook rs x | none => true)).all id = false := by
          obtain ⟨i, hi⟩ := List.getElem?_of_mem m0
          have li := (List.getElem?_eq_some_iff.mp hi).1
          rw [List.all_eq_false]
          refine ⟨false, List.mem_map.mpr ⟨i, List.mem_range.mpr li, ?_⟩, by simp⟩
          simp only [hi, f0]
        rw [e]
        exact k _ s1
abbrev s_InvalidWord___init__ : Stmt := inClass (top 13) 0
theorem sc_InvalidWordD_initD : FnScope ["self", "value"] ["self", "value"] (defScope s_InvalidWord___init__) := ⟨rfl, rfl, rfl, by decide +kernel, rfl, by decide +kernel, by decide +kernel⟩
theorem ok_word (TW : WoC K mg CW s_InvalidWord___init__) (fI : Addr) (fd : FuncData) (F : Fun K "__init__" "InvalidWord.__init__" s_InvalidWord___init__ fI fd) : FnOk P w K mg base CX0 1 fI fd ["self", "value"] (spErr "value" CW) ∧ Binds K fd ["self", "value"] [] := by
  refine ⟨F.ok sc_InvalidWordD_initD (fun vs H Q E h => ?_) (fun cdv A outer s H vs Q E hr h => ?_), F.binds (fun _ _ _ _ _ _ us hl => match us, hl with | [_, _], _ => rfl)⟩
  · obtain ⟨_, _, rfl, _⟩ := h
    rfl
  · obtain ⟨a, v, rfl, ha, k⟩ := h
    exact ⟨_, PSs.nox (pss_one (ps_ost (pv 0) (pv 1))), _, rfl, _, rfl, a, _, rfl, TW.o, TW.no, .inl ⟨ha, k⟩⟩
theorem m_kinds_ofX (U : BookT K mg CB) (TW : WoC K mg CW s_InvalidWord___init__) (F : MethAt K CB "_kinds_of" "Book._kinds_of" s_Book__kinds_of) (m_is_word : HasM P w K mg base CB "is_word" 1 ["self", "value"] (spNotWord K CB C)) : HasMX P w K mg base CB "_kinds_of" 3 ["self", "word"] (spOddX K CB C CW) := by
  refine hasMX_of F sc_BookDkinds_of (fun _ _ _ _ _ _ us hl => match us, hl with | [_, _], _ => rfl) (fun vs H Q E h => ?_) (fun f cdv A outer s H vs Q E hr h => ?_)
  · obtain ⟨_, _, _, _, rfl, _⟩ := h
    rfl
  · obtain ⟨a, v, rs, qs, rfl, hb, hv, k⟩ := h
    obtain ⟨dx, t, d, as, bs, ha, _⟩ := id hb
    refine ⟨_, (pss_cons (ps_if (pt_not (pt_val (pe_hasM m_is_word U.cl (hr.mono (by decide)) (pv 0) (pa_cons (pv 1) pa_nil)))) (pss_one (ps_raiseE rfl TW (ok_word TW) (hr.mono (by decide)) (takes_of rfl rfl rfl rfl) (by exact (pa_cons (pv 1) pa_nil))))
        pss_nil)
      (pss_one (ps_ret (pe_lc (own := [("name", 2)]) rfl sc_BookDkinds_of.nd (pi_tup (pv 1)) (blkOk_by (own := [("name", 2)]) (N := ["self", "word", "name"]) (sc := defScope s_Book__kinds_of) (by decide +kernel)) (fun _ _ _ _ _ => by exact (pg_name (i := 2) sc_BookDkinds_of.nd rfl (Or.inl rfl))) (fun _ _ _ _ _ => by exact pts_nil) (fun _ _ _ _ _ => by exact (pe_dget hr.u1 (pe_fldK K (pv 0) rfl) (pv 2) (fun _ _ => rfl))))))), ?_⟩
    refine ⟨_, rfl, a, dx, _, rfl, ha, rfl, _, rfl, a, v, rs, qs, rfl, hb, hv, fun H1 s1 => ⟨_, rfl, iteT ?_⟩⟩
    exact ⟨_, rfl, _, rfl, fun d hd => k d _ (s1.trans (Same.new hd)) upd_same⟩
theorem m_takenO (B : Blts mg) (U : BookT K mg CB) (T : KindT K mg C Cs) (F : MethAt K CB "taken" "Book.taken" s_Book_taken) (p2 : PK' P w K mg base C "takes" fun r => .int r.takes) (m_kinds_of : HasMX P w K mg base CB "_kinds_of" 3 ["self", "word"] (spOddX K CB C CW)) : HasMX P w K mg base CB "taken" 4 ["self", "word"] (spOddX K CB C CW) := by
  refine hasMX_of F sc_Book_taken (fun _ _ _ _ _ _ us hl => match us, hl with | [_, _], _ => rfl) (fun vs H Q E h => ?_) (fun f cdv A outer s H vs Q E hr h => ?_)
  · obtain ⟨_, _, _, _, rfl, _⟩ := h
    rfl
  · obtain ⟨a, v, rs, qs, rfl, hb, hv, k⟩ := h
    obtain ⟨dx, t, d, as, bs, ha, _⟩ := id hb
    refine ⟨_, (pss_one (ps_ret (pe_callB (cr_sum rfl) (by rfl) B.n_sum (by decide +kernel) (pa_cons (pe_lc (own := [("kind", 2)]) rfl sc_Book_taken.nd (pi_list (pe_hasMX m_kinds_of U.cl (hr.mono (by decide)) (passes_call (takes_of rfl rfl rfl rfl) (fun _ _ _ _ h => h)) (pv 0) (pa_cons (pv 1) pa_nil))) (blkOk_by (own := [("kind", 2)]) (N := ["self", "word", "kind"]) (sc := defScope s_Book_taken) (by decide +kernel)) (fun _ _ _ _ _ => by exact (pg_name (i := 2) sc_Book_taken.nd rfl (Or.inl rfl))) (fun _ _ _ _ _ => by exact pts_nil) (fun _ _ _ _ _ => by exact (pe_hasP p2 T.cl (hr.mono (by decide)) (pv 2)))) pa_nil)))), ?_⟩
    exact ⟨_, rfl, a, dx, _, rfl, ha, rfl, _, rfl, a, v, rs, qs, rfl, hb, hv, k⟩
theorem m_loops_madeO (B : Blts mg) (U : BookT K mg CB) (T : KindT K mg C Cs) (F : MethAt K CB "loops_made" "Book.loops_made" s_Book_loops_made) (p3 : PK' P w K mg base C "makes" fun r => .int r.makes) (m_kinds_of : HasMX P w K mg base CB "_kinds_of" 3 ["self", "word"] (spOddX K CB C CW)) : HasMX P w K mg base CB "loops_made" 4 ["self", "word"] (spOddX K CB C CW) := by
  refine hasMX_of F sc_Book_loops_made (fun _ _ _ _ _ _ us hl => match us, hl with | [_, _], _ => rfl) (fun vs H Q E h => ?_) (fun f cdv A outer s H vs Q E hr h => ?_)
  · obtain ⟨_, _, _, _, rfl, _⟩ := h
    rfl
  · obtain ⟨a, v, rs, qs, rfl, hb, hv, k⟩ := h
    obtain ⟨dx, t, d, as, bs, ha, _⟩ := id hb
    refine ⟨_, (pss_one (ps_ret (pe_callB (cr_sum rfl) (by rfl) B.n_sum (by decide +kernel) (pa_cons (pe_lc (own := [("kind", 2)]) rfl sc_Book_loops_made.nd (pi_list (pe_hasMX m_kinds_of U.cl (hr.mono (by decide)) (passes_call (takes_of rfl rfl rfl rfl) (fun _ _ _ _ h => h)) (pv 0) (pa_cons (pv 1) pa_nil))) (blkOk_by (own := [("kind", 2)]) (N := ["self", "word", "kind"]) (sc := defScope s_Book_loops_made) (by decide +kernel)) (fun _ _ _ _ _ => by exact (pg_name (i := 2) sc_Book_loops_made.nd rfl (Or.inl rfl))) (fun _ _ _ _ _ => by exact pts_nil) (fun _ _ _ _ _ => by exact (pe_hasP p3 T.cl (hr.mono (by decide)) (pv 2)))) pa_nil)))), ?_⟩
    exact ⟨_, rfl, a, dx, _, rfl, ha, rfl, _, rfl, a, v, rs, qs, rfl, hb, hv, k⟩
theorem m_yarn_ofO (B : Blts mg) (U : BookT K mg CB) (T : KindT K mg C Cs) (F : MethAt K CB "yarn_of" "Book.yarn_of" s_Book_yarn_of) (p6 : PK' P w K mg base C "yarn" fun r => .int r.yarn) (m_kinds_of : HasMX P w K mg base CB "_kinds_of" 3 ["self", "word"] (spOddX K CB C CW)) : HasMX P w K mg base CB "yarn_of" 4 ["self", "word"] (spOddX K CB C CW) := by
  refine hasMX_of F sc_Book_yarn_of (fun _ _ _ _ _ _ us hl => match us, hl with | [_, _], _ => rfl) (fun vs H Q E h => ?_) (fun f cdv A outer s H vs Q E hr h => ?_)
  · obtain ⟨_, _, _, _, rfl, _⟩ := h
    rfl
  · obtain ⟨a, v, rs, qs, rfl, hb, hv, k⟩ := h
    obtain ⟨dx, t, d, as, bs, ha, _⟩ := id hb
    refine ⟨_, (pss_one (ps_ret (pe_callB (cr_sum rfl) (by rfl) B.n_sum (by decide +kernel) (pa_cons (pe_lc (own := [("kind", 2)]) rfl sc_Book_yarn_of.nd (pi_list (pe_hasMX m_kinds_of U.cl (hr.mono (by decide)) (passes_call (takes_of rfl rfl rfl rfl) (fun _ _ _ _ h => h)) (pv 0) (pa_cons (pv 1) pa_nil))) (blkOk_by (own := [("kind", 2)]) (N := ["self", "word", "kind"]) (sc := defScope s_Book_yarn_of) (by decide +kernel)) (fun _ _ _ _ _ => by exact (pg_name (i := 2) sc_Book_yarn_of.nd rfl (Or.inl rfl))) (fun _ _ _ _ _ => by exact pts_nil) (fun _ _ _ _ _ => by exact (pe_hasP p6 T.cl (hr.mono (by decide)) (pv 2)))) pa_nil)))), ?_⟩
    exact ⟨_, rfl, a, dx, _, rfl, ha, rfl, _, rfl, a, v, rs, qs, rfl, hb, hv, k⟩
theorem m_madeO (B : Blts mg) (U : BookT K mg CB) (T : KindT K mg C Cs) (F : MethAt K CB "made" "Book.made" s_Book_made) (m_loops_made : HasMX P w K mg base CB "loops_made" 4 ["self", "word"] (spOddX K CB C CW)) : HasMX P w K mg base CB "made" 5 ["self", "word"] (spOddX K CB C CW) := by
  refine hasMX_of F sc_Book_made (fun _ _ _ _ _ _ us hl => match us, hl with | [_, _], _ => rfl) (fun vs H Q E h => ?_) (fun f cdv A outer s H vs Q E hr h => ?_)
  · obtain ⟨_, _, _, _, rfl, _⟩ := h
    rfl
  · obtain ⟨a, v, rs, qs, rfl, hb, hv, k⟩ := h
    obtain ⟨dx, t, d, as, bs, ha, _⟩ := id hb
    refine ⟨_, (pss_one (ps_ret (pe_hasMX m_loops_made U.cl (hr.mono (by decide)) (passes_call (takes_of rfl rfl rfl rfl) (fun _ _ _ _ h => h)) (pv 0) (pa_cons (pv 1) pa_nil)))), ?_⟩
    exact ⟨_, rfl, a, dx, _, rfl, ha, rfl, _, rfl, a, v, rs, qs, rfl, hb, hv, k⟩
theorem m_turnedO (B : Blts mg) (U : BookT K mg CB) (T : KindT K mg C Cs) (F : MethAt K CB "turned" "Book.turned" s_Book_turned) (p4 : PK' P w K mg base C "back" fun r => ov r.back) (m_kinds_of : HasMX P w K mg base CB "_kinds_of" 3 ["self", "word"] (spOddX K CB C CW)) : HasMX P w K mg base CB "turned" 4 ["self", "word"] (spOddX K CB C CW) := by
  refine hasMX_of F sc_Book_turned (fun _ _ _ _ _ _ us hl => match us, hl with | [_, _], _ => rfl) (fun vs H Q E h => ?_) (fun f cdv A outer s H vs Q E hr h => ?_)
  · obtain ⟨_, _, _, _, rfl, _⟩ := h
    rfl
  · obtain ⟨a, v, rs, qs, rfl, hb, hv, k⟩ := h
    obtain ⟨dx, t, d, as, bs, ha, _⟩ := id hb
    refine ⟨_, (pss_cons (ps_set (i := 2) sc_Book_turned.nd rfl (Or.inl rfl) (pe_hasMX m_kinds_of U.cl (hr.mono (by decide)) (passes_call (takes_of rfl rfl rfl rfl) (fun _ _ _ _ h => h)) (pv 0) (pa_cons (pv 1) pa_nil)))
      (pss_cons (ps_for (passes_of rfl) rfl (pi_list (pv 2)) (pg_name (i := 3) sc_Book_turned.nd rfl (Or.inl rfl))
        (pss_one (ps_if (pt_cmpR op_isN (pe_hasP p4 T.cl (hr.mono (by decide)) (pv 3)) pe_non (by first | exact nomark _ | rfl)) (pss_one ps_never)
          pss_nil)))
      (pss_one (ps_ret (pe_callTy call_tuple_of (by rfl) B.n_tuple (by decide +kernel) (pa_cons (pe_lc (own := [("kind", 3)]) rfl sc_Book_turned.nd (pi_list (pe_revL (pv 2))) (blkOk_by (own := [("kind", 3)]) (N := ["self", "word", "kinds", "kind"]) (sc := defScope s_Book_turned) (by decide +kernel)) (fun _ _ _ _ _ => by exact (pg_name (i := 3) sc_Book_turned.nd rfl (Or.inl rfl))) (fun _ _ _ _ _ => by exact pts_nil) (fun _ _ _ _ _ => by exact (pe_hasP p4 T.cl (hr.mono (by decide)) (pv 3)))) pa_nil)))))), ?_⟩
    exact ⟨_, rfl, a, dx, _, rfl, ha, rfl, _, rfl, a, v, rs, qs, rfl, hb, hv, k⟩
theorem m_mirroredO (B : Blts mg) (U : BookT K mg CB) (T : KindT K mg C Cs) (F : MethAt K CB "mirrored" "Book.mirrored" s_Book_mirrored) (p5 : PK' P w K mg base C "mirror" fun r => ov r.mirror) (m_kinds_of : HasMX P w K mg base CB "_kinds_of" 3 ["self", "word"] (spOddX K CB C CW)) : HasMX P w K mg base CB "mirrored" 4 ["self", "word"] (spOddX K CB C CW) := by
  refine hasMX_of F sc_Book_mirrored (fun _ _ _ _ _ _ us hl => match us, hl with | [_, _], _ => rfl) (fun vs H Q E h => ?_) (fun f cdv A outer s H vs Q E hr h => ?_)
  · obtain ⟨_, _, _, _, rfl, _⟩ := h
    rfl
  · obtain ⟨a, v, rs, qs, rfl, hb, hv, k⟩ := h
    obtain ⟨dx, t, d, as, bs, ha, _⟩ := id hb
    refine ⟨_, (pss_cons (ps_set (i := 2) sc_Book_mirrored.nd rfl (Or.inl rfl) (pe_hasMX m_kinds_of U.cl (hr.mono (by decide)) (passes_call (takes_of rfl rfl rfl rfl) (fun _ _ _ _ h => h)) (pv 0) (pa_cons (pv 1) pa_nil)))
      (pss_cons (ps_for (passes_of rfl) rfl (pi_list (pv 2)) (pg_name (i := 3) sc_Book_mirrored.nd rfl (Or.inl rfl))
        (pss_one (ps_if (pt_cmpR op_isN (pe_hasP p5 T.cl (hr.mono (by decide)) (pv 3)) pe_non (by first | exact nomark _ | rfl)) (pss_one ps_never)
          pss_nil)))
      (pss_one (ps_ret (pe_callTy call_tuple_of (by rfl) B.n_tuple (by decide +kernel) (pa_cons (pe_lc (own := [("kind", 3)]) rfl sc_Book_mirrored.nd (pi_list (pe_revL (pv 2))) (blkOk_by (own := [("kind", 3)]) (N := ["self", "word", "kinds", "kind"]) (sc := defScope s_Book_mirrored) (by decide +kernel)) (fun _ _ _ _ _ => by exact (pg_name (i := 3) sc_Book_mirrored.nd rfl (Or.inl rfl))) (fun _ _ _ _ _ => by exact pts_nil) (fun _ _ _ _ _ => by exact (pe_hasP p5 T.cl (hr.mono (by decide)) (pv 3)))) pa_nil)))))), ?_⟩
    exact ⟨_, rfl, a, dx, _, rfl, ha, rfl, _, rfl, a, v, rs, qs, rfl, hb, hv, k⟩
abbrev s_UnknownKind___init__ : Stmt := inClass (top 15) 0
theorem sc_UnknownKindD_initD : FnScope ["self", "name"] ["self", "name"] (defScope s_UnknownKind___init__) := ⟨rfl, rfl, rfl, by decide +kernel, rfl, by decide +kernel, by decide +kernel⟩
theorem ok_unknown (TU : NoC K mg "UnknownKind" CU s_UnknownKind___init__ "UnknownKind.__init__") (fI : Addr) (fd : FuncData) (F : Fun K "__init__" "UnknownKind.__init__" s_UnknownKind___init__ fI fd) : FnOk P w K mg base CX0 1 fI fd ["self", "name"] (spErr "name" CU) ∧ Binds K fd ["self", "name"] [] := by
  refine ⟨F.ok sc_UnknownKindD_initD (fun vs H Q E h => ?_) (fun cdv A outer s H vs Q E hr h => ?_), F.binds (fun _ _ _ _ _ _ us hl => match us, hl with | [_, _], _ => rfl)⟩
  · obtain ⟨_, _, rfl, _⟩ := h
    rfl
  · obtain ⟨a, v, rfl, ha, k⟩ := h
    exact ⟨_, PSs.nox (pss_one (ps_put (pv 0) (pv 1))), _, rfl, _, rfl, a, _, rfl, TU.1.o, TU.2, .inl ⟨ha, k⟩⟩
theorem m_kindX (U : BookT K mg CB) (TU : NoC K mg "UnknownKind" CU s_UnknownKind___init__ "UnknownKind.__init__") (F : MethAt K CB "kind" "Book.kind" s_Book_kind) (m_contains : HasM P w K mg base CB "__contains__" 1 ["self", "x"] (spInV K CB C)) : HasMX P w K mg base CB "kind" 3 ["self", "name"] (spKindX K CB C CU) := by
  refine hasMX_of F sc_Book_kind (fun _ _ _ _ _ _ us hl => match us, hl with | [_, _], _ => rfl) (fun vs H Q E h => ?_) (fun f cdv A outer s H vs Q E hr h => ?_)
  · obtain ⟨_, _, _, _, rfl, _⟩ := h
    rfl
  · obtain ⟨a, v, rs, qs, rfl, hb, hv, hf, k⟩ := h
    obtain ⟨dx, t, d, as, bs, ha, _⟩ := id hb
    refine ⟨_, (pss_cons (ps_if (pt_cmpR (op_notInM m_contains (hr.mono (by decide))) (pv 1) (pv 0) (by first | exact nomark _ | rfl)) (pss_one (ps_raiseB rfl TU.1 (ok_unknown TU) (hr.mono (by decide)) (takes_of rfl rfl rfl rfl) (by exact (pa_cons (pv 1) pa_nil))))
        pss_nil)
      (pss_one (ps_ret (pe_dget hr.u1 (pe_fld (pv 0) rfl) (pv 1) (fun _ _ => rfl))))), ?_⟩
    refine ⟨_, rfl, _, rfl, a, dx, _, rfl, ha, a, v, rs, qs, rfl, hb, hv, ?_⟩
    refine ⟨_, rfl, _, rfl, ite2 (fun _ => ?_) (fun c => absurd (by rw [hf]; rfl) c)⟩
    exact ⟨_, rfl, _, rfl, fun d hd => k d _ (Same.new hd) upd_same⟩
end
end N

set_option maxHeartbeats 4000000
/-! repr of a value that is data or an empty dict -/
namespace L2
open PySem PySem.Spec PyProof.Rows
def rReprO (K : PySem.W.Frag) (B : Nat) : List V → Hp → VK → Prop := fun xs H Q => ∃ (v : V) (d : PyData), xs = [v] ∧ Oq K H v d ∧ fine d = true ∧ d.depth ≤ B ∧ wt d ≤ 1000000 ∧ Q (.str d.shown) H
theorem call_reprO {X : Cx} {B : Nat} (hc : Calm X.A) (hu : X.A.units + (B + 1) < cLine) : CallR X (.builtin "repr") (rReprO X.K B) := by
  intro pins s σ H xs us Q I r h
  obtain ⟨v, d, rfl, hd, hf, hB, hw, q⟩ := h
  cases hd with
  | of hd => exact call_reprD (B := B) hc hu pins s σ H [v] us Q I r ⟨v, d, rfl, hd, (fine_ok _ hf).1, hB, fine_size hf hw, q⟩
  | @emp a ha =>
    obtain ⟨u, rfl, ru⟩ := r.one
    cases (show u = Value.ref a from ru)
    obtain ⟨rd, ns⟩ := emp_reads I ha
    exact repr_of_reads' rd (fine_ok _ hf).1 (fun _ m => ns (by simpa using m)) hc (by omega) (fun _ _ e => e) (fun h' t tk hk => ⟨.str _, H, I.kept hk, ⟨_, rfl⟩, q⟩) (fine_size hf hw)
end L2

set_option maxHeartbeats 4000000
namespace N
open PySem L2
abbrev s__law_heard : Stmt := top 51
theorem sc__law_heard : FnScope ["_law_call", "e"] ["_law_call"] (defScope s__law_heard) := ⟨rfl, rfl, rfl, by decide +kernel, rfl, by decide +kernel, by decide +kernel⟩
def fieldOf : Nat → Str
  | 0 => "value"
  | _ => "name"
def saidOf : Nat → Str
  | 0 => "word"
  | _ => "kind"
/-- what _law_heard makes of a lambda that is refused -/
def THeard (K : PySem.W.Frag) (Es : Nat → Addr) : (XK → Hp → VK → Prop) → Hp → VK → Prop := fun tl H Q =>
  tl (fun cls d H' => ∃ (i : Nat) (dd : Addr) (v : V) (dt : PyData), i < 2 ∧ cls = .ref (Es i) ∧ d = some dd ∧ H' dd = some (.xd [(fieldOf i, v)]) ∧ Oq K H' v dt ∧ fine dt = true ∧ dt.depth ≤ 8 ∧ wt dt ≤ 1000000 ∧
    ∀ t, H' t = none → Q (.ref t) (upd H' t (.lst [.str (saidOf i), .str dt.shown]))) H (fun _ H1 => 1 ≤ sizeLine ∧ ∀ t, H1 t = none → Q (.ref t) (upd H1 t (.lst [.str "let"])))
section
variable {Es : Nat → Addr}
theorem heard_gives {X : Cx} {g : Addr} {cdg : Value} {q : Str} (B : Blts X.mg) (hG : Calm X.A) (hr : Room 3 X.A) (TW : WoC X.K X.mg (Es 0) s_InvalidWord___init__) (TU : NoC X.K X.mg "UnknownKind" (Es 1) s_UnknownKind___init__ "UnknownKind.__init__")
    (hx : ∀ i j, i < 2 → j < 2 → PySem.W.exmOne X.K (.ref (Es i)) (.ref (Es j)) = some (decide (i = j))) :
    LamX.GivesTo X ["_law_call", "e"] "_law_heard" (defScope s__law_heard) g cdg (defBody s__law_heard) "_law_call" q (THeard X.K Es) := by
  intro f c' s H Q tl act hc h
  have hu : (X.A.deeper (PyProof.Rows.envOfC "_law_heard" (defScope s__law_heard) s.heap.objs.size g cdg)).units + (8 + 1) < cLine := Nat.lt_of_le_of_lt (Nat.add_le_add_left (by decide) _) (hr.deeper _).units
  refine ⟨_, pss_cons (ps_try_ases (X := (cxOf C8.CX0 X.prog X.w X.K X.mg X.base ["_law_call", "e"] "_law_heard" (defScope s__law_heard) g cdg X.A X.stack s H C8.E0).nox) (n := "e") (i := 1)
      (l := [(.ref (Es 0), _), (.ref (Es 1), _)])
      (tb := fun W D σ H => ∃ Ech : XK, (∀ cls d σ' H', σ'.length = 2 → Ech cls d H' → W cls d σ' H') ∧ σ[0]? = some (some (.ref f)) ∧ H c' = some (LamX.CodeO c' q) ∧ tl Ech H (fun _ H1 => D.nx σ H1))
      rfl rfl sc__law_heard.nd rfl rfl takes0 (fun W pn xe tk _ => ?_)
      (.cons ⟨rfl, by decide, .inl TW.g⟩ (fun a o k d pn hz hf => pss_one (ps_ret (pe_lst (pa_cons pe_str (pa_cons (pe_callB (id := "repr") (r := rReprO X.K 8) (by exact call_reprO (B := 8) hG hu) (by rfl) B.n_repr (by decide +kernel) (pa_cons (pe_xf TW.r TW.no hz hf (pv 1)) pa_nil)) pa_nil)))))
        (.cons ⟨rfl, by decide, .inl TU.1.g⟩ (fun a o k d pn hz hf => pss_one (ps_ret (pe_lst (pa_cons pe_str (pa_cons (pe_callB (id := "repr") (r := rReprO X.K 8) (by exact call_reprO (B := 8) hG hu) (by rfl) B.n_repr (by decide +kernel) (pa_cons (pe_xf TU.1.r TU.2 hz hf (pv 1)) pa_nil)) pa_nil))))) .nil)))
    (pss_one (ps_ret (pe_lst (pa_cons pe_str pa_nil)))), ?_⟩
  · refine ⟨fun pins s' σ H' D I h' => ?_⟩
    obtain ⟨Ech, hW, h1, h2, h3⟩ := h'
    have tk2 : Takes ((cxOf C8.CX0 X.prog X.w X.K X.mg X.base ["_law_call", "e"] "_law_heard" (defScope s__law_heard) g cdg X.A X.stack s H C8.E0).tr pn xe) (fun cls d σ H => σ.length = 2 → W cls d σ H) := fun u s' z => by
      obtain ⟨a, BB, sI, pins, σ, H, cls, d, e, I, nb, up, sky, na, os, ag, w⟩ := z
      exact tk u s' ⟨a, BB, sI, pins, σ, H, cls, d, e, I, nb, up, sky, na, os, ag, w I.len⟩
    exact (pss_one (X := ((cxOf C8.CX0 X.prog X.w X.K X.mg X.base ["_law_call", "e"] "_law_heard" (defScope s__law_heard) g cdg X.A X.stack s H C8.E0).tr pn xe)) (ps_expr (act (fun cls d σ H => σ.length = 2 → W cls d σ H) pn xe Ech _ _ tk2 (fun cls d σ' H' z l => hW cls d σ' H' l z)))).run pins s' σ H' D I ⟨h1, h2, h3⟩
  · refine ⟨fun cls d H' => ∃ (i : Nat) (dd : Addr) (v : V) (dt : PyData), i < 2 ∧ cls = .ref (Es i) ∧ d = some dd ∧ H' dd = some (.xd [(fieldOf i, v)]) ∧ Oq X.K H' v dt ∧ fine dt = true ∧ dt.depth ≤ 8 ∧ wt dt ≤ 1000000 ∧
      ∀ t, H' t = none → Q (.ref t) (upd H' t (.lst [.str (saidOf i), .str dt.shown])), fun cls d σ' H' l2 z => ?_, rfl, hc, h⟩
    obtain ⟨i, dd, v, dt, hi, rfl, rfl, hd, ho, hf, hdp, hw, q⟩ := z
    obtain ⟨x0, x1, rfl⟩ : ∃ x0 x1, σ' = [x0, x1] := by
      match σ', l2 with
      | [x0, x1], _ => exact ⟨x0, x1, rfl⟩
    refine ⟨_, hx i 0 hi (by decide), fun b a na => ?_, fun b => ⟨_, hx i 1 hi (by decide), fun b a na => ?_, fun b => ?_⟩⟩
    · have e : i = 0 := of_decide_eq_true b
      subst e
      exact ⟨_, rfl, rfl, rfl, dd, _, v, rfl, hd, rfl, v, dt, rfl, ho, hf, hdp, hw, (by show 2 ≤ sizeLine; decide), q⟩
    · have e : i = 1 := of_decide_eq_true b
      subst e
      exact ⟨_, rfl, rfl, rfl, dd, _, v, rfl, hd, rfl, v, dt, rfl, ho, hf, hdp, hw, (by show 2 ≤ sizeLine; decide), q⟩
    · rename_i b0
      have := of_decide_eq_false b0
      have := of_decide_eq_false b
      omega
end
end N

set_option maxHeartbeats 4000000
/-! the text of data is a text (each sign below 0x110000) -/
namespace L2
open PySem PySem.Spec PyProof.Rows
open PySem.Builtin.Str (reprChar)
def SgA (x : Array Nat) : Prop := ∀ c ∈ x.toList, c < 0x110000
def Sg (x : Str) : Prop := SgA x.cps
theorem sg_ok {x : Str} : Sg x ↔ PyData.strOk x = true := by
  unfold Sg SgA PyData.strOk
  rw [Array.all_eq_true_iff_forall_mem]
  exact ⟨fun h c hc => decide_eq_true (h c (Array.mem_toList_iff.mpr hc)), fun h c hc => of_decide_eq_true (h c (Array.mem_toList_iff.mp hc))⟩
theorem sg_app {x y : Str} (h : Sg x) (h2 : Sg y) : Sg (x ++ y) := fun c hc => by
  rw [show (x ++ y).cps = x.cps ++ y.cps from rfl, Array.toList_append] at hc
  exact (List.mem_append.mp hc).elim (h c) (h2 c)
theorem chr_lt (c : Char) : c.toNat < 0x110000 := by
  have := c.valid
  unfold Char.toNat
  rcases this with h | ⟨_, h⟩
  · exact Nat.lt_trans h (by decide)
  · exact h
theorem sg_lit (s : String) : Sg (Str.ofString s) := fun c hc => by
  rw [Str.ofString_eq_toList] at hc
  obtain ⟨k, _, rfl⟩ := List.mem_map.mp (by simpa using hc)
  exact chr_lt k
theorem sg_nil : Sg Str.empty := fun c hc => by cases hc
theorem sg_join {sep : Str} (hs : Sg sep) : ∀ {ts : List Str}, (∀ t ∈ ts, Sg t) → Sg (Str.join sep ts)
  | [], _ => sg_nil
  | [t], h => h t (.head _)
  | t :: u :: r, h => sg_app (sg_app (h t (.head _)) hs) (sg_join hs fun x hx => h x (.tail _ hx))
theorem sg_from : ∀ {ts : List Str} {k : Nat} {acc : Str}, Sg acc → (∀ t ∈ ts, Sg t) → Sg (textFrom k acc ts)
  | [], _, _, h, _ => h
  | t :: r, k, acc, h, ht => by
    unfold textFrom
    refine sg_from (sg_app (sg_app h ?_) (ht t (.head _))) fun x hx => ht x (.tail _ hx)
    split <;> exact sg_lit _
theorem sg_hex (w c : Nat) : ∀ d ∈ List.replicate (w - ((Nat.toDigits 16 c).map Char.toNat).length) 48 ++ (Nat.toDigits 16 c).map Char.toNat, d < 0x110000 := fun d hd => by
  rcases List.mem_append.mp hd with h | h
  · rw [(List.mem_replicate.mp h).2]
    decide
  · obtain ⟨k, _, rfl⟩ := List.mem_map.mp h
    exact chr_lt k
theorem sg_sign (q c : Nat) (hc : c < 0x110000) : ∀ d ∈ reprChar q c, d < 0x110000 := by
  have h8 := sg_hex 8 c
  have h4 := sg_hex 4 c
  have h2 := sg_hex 2 c
  have two : ∀ {x : Nat} {l : List Nat}, x < 0x110000 → (∀ d ∈ l, d < 0x110000) → ∀ d ∈ [92, x] ++ l, d < 0x110000 := fun {x l} hx hl d hd => by
    rcases List.mem_append.mp hd with h | h
    · simp only [List.mem_cons, List.mem_nil_iff, or_false] at h
      rcases h with rfl | rfl
      · decide
      · exact hx
    · exact hl d h
  have one : ∀ {x : Nat}, x < 0x110000 → ∀ d ∈ [92, x], d < 0x110000 := fun {x} hx d hd => two (l := []) hx (fun _ h => nomatch h) d (by simpa using hd)
  unfold reprChar
  dsimp only
  repeat' split
  · exact one hc
  · exact one (by decide)
  · exact one (by decide)
  · exact one (by decide)
  · intro d hd
    rw [List.mem_singleton.mp hd]
    exact hc
  · exact two (by decide) h2
  · exact two (by decide) h4
  · exact two (by decide) h8
theorem sg_fold (q : Nat) : ∀ (l : List Nat) (acc : Array Nat), SgA acc → (∀ c ∈ l, c < 0x110000) → SgA (l.foldl (fun out c => out ++ (reprChar q c).toArray) acc)
  | [], _, h, _ => h
  | c :: r, acc, h, hl => by
    rw [List.foldl_cons]
    refine sg_fold q r _ (fun d hd => ?_) fun x hx => hl x (.tail _ hx)
    rw [Array.toList_append] at hd
    exact (List.mem_append.mp hd).elim (h d) fun z => sg_sign q c (hl c (.head _)) d (by simpa using z)
theorem sg_repr {x : Str} (h : Sg x) : Sg (reprText x) := by
  have q : reprQuote x < 0x110000 := by
    unfold reprQuote
    split <;> decide
  intro d hd
  unfold reprText at hd
  simp only [Array.toList_push] at hd
  rcases List.mem_append.mp hd with z | z
  · rw [← Array.foldl_toList] at z
    exact sg_fold _ _ _ (fun e he => by
      have z : e = reprQuote x := by simpa using he
      rw [z]
      exact q) h d z
  · rw [List.mem_singleton.mp z]
    exact q
mutual
theorem sg_shown : ∀ d : PyData, fine d = true → Sg d.shown
  | .none, _ => sg_lit "None"
  | .bool true, _ => sg_lit "True"
  | .bool false, _ => sg_lit "False"
  | .int i, _ => sg_lit (toString i)
  | .str x, h => sg_repr (sg_ok.mpr h)
  | .list xs, h => sg_app (sg_from (sg_lit "[") (sg_shownAll xs h)) (sg_lit "]")
  | .tuple xs, h => sg_app (sg_app (sg_lit "(") (sg_join (sg_lit ", ") (sg_shownAll xs h))) (by split <;> exact sg_lit _)
  | .dict [], _ => sg_app (sg_app (sg_lit "{") (sg_join (sg_lit ", ") (fun _ h => nomatch h))) (sg_lit "}")
  | .dict (_ :: _), h => by cases h
theorem sg_shownAll : ∀ ds : List PyData, fineAll ds = true → ∀ t ∈ PyData.shownAll ds, Sg t
  | [], _ => fun _ h => nomatch h
  | d :: ds, h => fun t ht => by
    obtain ⟨h1, h2⟩ := Bool.and_eq_true_iff.mp (show (fine d && fineAll ds) = true from h)
    rcases List.mem_cons.mp ht with e | ht
    · rw [e]
      exact sg_shown d h1
    · exact sg_shownAll ds h2 t ht
end
theorem shown_ok {d : PyData} (h : fine d = true) : PyData.strOk d.shown = true := sg_ok.mp (sg_shown d h)
end L2

set_option maxHeartbeats 4000000
namespace L2
open PySem PySem.Spec PyProof.Rows
theorem sl_tupK {X : Cx} (K : PySem.W.Frag) (hK : X.K = K := by rfl) : SlR X (rSlT K) := by
  subst hK
  exact sl_tup
theorem op_in_seqK {X : Cx} (K : PySem.W.Frag) (hK : X.K = K := by rfl) : OpR X (compareOp .In) (rIn K false) := by
  subst hK
  exact op_in_seq
end L2
namespace N
open PySem L2
/-! ### values that are no words, each beside its text -/
theorem BookAt.xt {CB C : Addr} {H H' : Hp} {a : Addr} {rs qs : List Row} (h : BookAt CB C H a rs qs) (e : LamX.ExtN H H') : BookAt CB C H' a rs qs := by
  have kx : ∀ {a : Addr} {r : Row}, KindAt C H a r → KindAt C H' a r := fun ⟨dx, h⟩ => ⟨dx, e _ _ h fun ps z => by cases z⟩
  obtain ⟨dx, t, d, as, bs, h1, h2, h3, h4, h5, h6⟩ := h
  exact ⟨dx, t, d, as, bs, e _ _ h1 (fun ps z => by cases z), e _ _ h2 (fun ps z => by cases z), L2.Paired.mapP h3 fun _ _ k => kx k, e _ _ h4 (fun ps z => by cases z), L2.Paired.mapP h5 fun _ _ k => kx k, h6⟩
structure Small (d : PyData) : Prop where
  fine : fine d = true
  depth : d.depth ≤ 8
  wt : wt d ≤ 1000000
def OddAt (K : PySem.W.Frag) (H : Hp) (rs : List Row) (v : V) (d : PyData) : Prop := (∀ H', LamX.ExtN H H' → NoWord K H' rs v ∧ Oq K H' v d) ∧ Small d
def BadName (K : PySem.W.Frag) (H : Hp) (rs : List Row) (v : V) (d : PyData) : Prop := (∀ H', LamX.ExtN H H' → ItemTy K H' v ∧ Oq K H' v d) ∧ inBook rs v = false ∧ Small d
theorem OddAt.xt {K : PySem.W.Frag} {H H' : Hp} {rs : List Row} {v : V} {d : PyData} (h : OddAt K H rs v d) (e : LamX.ExtN H H') : OddAt K H' rs v d := ⟨fun H2 e2 => h.1 H2 (e.trans e2), h.2⟩
theorem BadName.xt {K : PySem.W.Frag} {H H' : Hp} {rs : List Row} {v : V} {d : PyData} (h : BadName K H rs v d) (e : LamX.ExtN H H') : BadName K H' rs v d := ⟨fun H2 e2 => h.1 H2 (e.trans e2), h.2⟩
/-- the lists that the calls of one value told so far -/
structure ToldN (T : List (Addr × Str)) (H0 H : Hp) (M : Addr) (n : Nat) (s : Str) : Prop where
  ext : LamX.ExtN H0 H
  tabs : LamX.Tabs T H
  new : ∀ c o, H0 c = some o → (∀ ps, o ≠ .tbl ps) → c ≠ M
  ex : ∃ as : List Addr, as.length = n ∧ H M = some (.lst (as.map V.ref)) ∧ ∀ a ∈ as, H a = some (.lst [.str "word", .str s])
theorem tabs_lst {T : List (Addr × Str)} {H : Hp} {M : Addr} {xs ys : List V} (h : LamX.Tabs T H) (hM : H M = some (.lst xs)) : LamX.Tabs T (upd H M (.lst ys)) := fun p hp => by
  obtain ⟨ps, h1, h2, h3⟩ := h p hp
  refine ⟨ps, (upd_ne (fun z => by rw [z, hM] at h1; cases h1)).trans h1, h2, fun pos cv hc => ?_⟩
  obtain ⟨c, e1, e2⟩ := h3 pos cv hc
  refine ⟨c, e1, (upd_ne (fun z => ?_)).trans e2⟩
  rw [z, hM] at e2
  unfold LamX.CodeO at e2
  cases e2
theorem ToldN.first {T : List (Addr × Str)} {H0 H1 H2 : Hp} {t M : Addr} {s : Str} (e : LamX.ExtN H0 H1) (tb : LamX.Tabs T H1) (s12 : Same H1 H2) (nt : H2 t = none) (nM : (upd H2 t (.lst [.str "word", .str s])) M = none) :
    ToldN T H0 (upd (upd H2 t (.lst [.str "word", .str s])) M (.lst [.ref t])) M 1 s := by
  have s3 : Same H2 (upd H2 t (.lst [.str "word", .str s])) := Same.new nt
  have s4 : Same (upd H2 t (.lst [.str "word", .str s])) (upd (upd H2 t (.lst [.str "word", .str s])) M (.lst [.ref t])) := Same.new nM
  have sx := (s12.trans s3).trans s4
  have tn : (upd H2 t (.lst [V.str "word", V.str s])) t = some (.lst [.str "word", .str s]) := upd_same
  refine ⟨e.trans (LamX.ExtN.of sx), fun p hp => (tb p hp).ext sx, fun c o hc n => ne_of_none ((s12.trans s3) _ _ (e _ _ hc n)) nM, [t], rfl, upd_same, fun a ha => ?_⟩
  rw [List.mem_singleton.mp ha]
  exact s4 _ _ tn
theorem ToldN.more {T : List (Addr × Str)} {H0 H H1 H2 : Hp} {t M : Addr} {n : Nat} {s : Str} (h : ToldN T H0 H M n s) (e : LamX.ExtN H H1) (tb : LamX.Tabs T H1) (s12 : Same H1 H2) (nt : H2 t = none) :
    ∃ xs : List V, xs.length = n ∧ (upd H2 t (.lst [.str "word", .str s])) M = some (.lst xs) ∧ ToldN T H0 (upd (upd H2 t (.lst [.str "word", .str s])) M (.lst (xs ++ [.ref t]))) M (n + 1) s := by
  obtain ⟨as, hl, hM, ha⟩ := h.ex
  have s3 : Same H2 (upd H2 t (.lst [.str "word", .str s])) := Same.new nt
  have s13 := s12.trans s3
  have nl : ∀ {xs : List V} ps, (HO.lst xs) ≠ .tbl ps := fun ps z => by cases z
  have hM3 := s13 _ _ (e _ _ hM nl)
  have tM : t ≠ M := fun z => by
    have q := s12 _ _ (e _ _ hM nl)
    rw [← z, nt] at q
    cases q
  refine ⟨as.map V.ref, by rw [List.length_map, hl], hM3, fun c o hc n => ?_, tabs_lst (fun p hp => (tb p hp).ext s13) hM3, h.new, as ++ [t], by rw [List.length_append, hl]; rfl, ?_, fun a hm => ?_⟩
  · rw [upd_ne (h.new c o hc n)]
    exact s13 _ _ (e _ _ (h.ext _ _ hc n) n)
  · rw [upd_same, List.map_append]
    rfl
  · rcases List.mem_append.mp hm with hm | hm
    · have q := ha a hm
      have aM : a ≠ M := fun z => by
        rw [z, hM] at q
        cases as with
        | nil => cases q
        | cons b bs => cases q
      rw [upd_ne aM]
      exact s13 _ _ (e _ _ q nl)
    · rw [List.mem_singleton.mp hm, upd_ne tM, upd_same]
def toldD (n : Nat) (s : Str) : PyData := .list (List.replicate n (.list [.str "word", .str s]))
theorem dp_tolds {K : PySem.W.Frag} {H : Hp} {s : Str} : ∀ {as : List Addr}, (∀ a ∈ as, H a = some (.lst [.str "word", .str s])) → DpAll K H (as.map V.ref) (List.replicate as.length (.list [.str "word", .str s]))
  | [], _ => .nil
  | a :: as, h => .cons (.lst (SqL.of (h a (.head _))) (.cons (.str _) (.cons (.str _) .nil))) (dp_tolds fun b hb => h b (.tail _ hb))
theorem ToldN.dp {K : PySem.W.Frag} {T : List (Addr × Str)} {H0 H : Hp} {M : Addr} {n : Nat} {s : Str} (h : ToldN T H0 H M n s) : Dp K H (.ref M) (toldD n s) := by
  obtain ⟨as, hl, hM, ha⟩ := h.ex
  rw [toldD, ← hl]
  exact .lst (SqL.of hM) (dp_tolds ha)
theorem told_shaped {s : Str} (h : PyData.strOk s = true) : SeqAt.shaped (toldD 5 s) = true := by
  have hw : PyData.strOk ("word" : Str) = true := by decide +kernel
  simp [toldD, SeqAt.shaped, PyData.canLay0, PyData.canLayAll0, PyData.depth, PyData.depthAll, h, hw, List.replicate]
theorem told_eqv (s : Str) : PyData.eqv (toldD 5 s) (toldD 5 s) = true := by
  simp [toldD, PyData.eqv, PyData.eqvAll, List.replicate]
theorem kind_shaped {s : Str} (h : PyData.strOk s = true) : SeqAt.shaped (.list [.str "kind", .str s]) = true := by
  have hw : PyData.strOk ("kind" : Str) = true := by decide +kernel
  simp [SeqAt.shaped, PyData.canLay0, PyData.canLayAll0, PyData.depth, PyData.depthAll, h, hw]
theorem kind_eqv (s : Str) : PyData.eqv (.list [.str "kind", .str s]) (.list [.str "kind", .str s]) = true := by
  simp [PyData.eqv, PyData.eqvAll]
section
variable {K : PySem.W.Frag} {CB C b : Addr} {Es : Nat → Addr} {m : Str} {rs qs : List Row} {v : V} {dt : PyData} {H : Hp} {Q : VK} {σ : St}
theorem heard_word (h0 : σ[0]? = some (some (.ref b))) (h6 : σ[6]? = some (some v)) (hm : ∀ x y : V, ([("_kinds", x), ("_table", y)] : List (Str × V)).lookup m = none) (hb : BookAt CB C H b rs qs) (ho : OddAt K H rs v dt)
    (k : ∀ t H', Same H H' → H' t = none → Q (.ref t) (upd H' t (.lst [.str "word", .str dt.shown]))) : THeard K Es (fun E H' Q' => tMeth CB m (spOddX K CB C (Es 0)) [] E (tVar 0) (tCons (tVar 6) tNil) σ H' Q') H Q := by
  obtain ⟨dx, tb, db, as, bs, hbi, _⟩ := id hb
  exact ⟨_, h0, b, dx, _, rfl, hbi, hm _ _, _, h6, b, v, rs, qs, rfl, hb, (ho.1 H (LamX.ExtN.refl _)).1, fun dd H1 s1 hdd => ⟨0, dd, v, dt, by decide, rfl, rfl, hdd, (ho.1 H1 (LamX.ExtN.of s1)).2, ho.2.fine, ho.2.depth, ho.2.wt, fun t nt => k t H1 s1 nt⟩⟩
theorem heard_kind (h0 : σ[0]? = some (some (.ref b))) (h6 : σ[6]? = some (some v)) (hb : BookAt CB C H b rs qs) (ho : BadName K H rs v dt)
    (k : ∀ t H', Same H H' → H' t = none → Q (.ref t) (upd H' t (.lst [.str "kind", .str dt.shown]))) : THeard K Es (fun E H' Q' => tMeth CB "kind" (spKindX K CB C (Es 1)) [] E (tVar 0) (tCons (tVar 6) tNil) σ H' Q') H Q := by
  obtain ⟨dx, tb, db, as, bs, hbi, _⟩ := id hb
  exact ⟨_, h0, b, dx, _, rfl, hbi, rfl, _, h6, b, v, rs, qs, rfl, hb, (ho.1 H (LamX.ExtN.refl _)).1, ho.2.1, fun dd H1 s1 hdd => ⟨1, dd, v, dt, by decide, rfl, rfl, hdd, (ho.1 H1 (LamX.ExtN.of s1)).2, ho.2.2.fine, ho.2.2.depth, ho.2.2.wt, fun t nt => k t H1 s1 nt⟩⟩
end
end N

set_option maxHeartbeats 4000000
namespace N
open PySem L2
section
variable {K : PySem.W.Frag} {H H' : Hp} {rs : List Row} {a : Addr} {xs : List V} {ds : List PyData}
theorem xlst (h : H a = some (.lst xs)) (e : LamX.ExtN H H') : H' a = some (.lst xs) := e _ _ h fun ps z => by cases z
theorem xtup (h : H a = some (.tup xs)) (e : LamX.ExtN H H') : H' a = some (.tup xs) := e _ _ h fun ps z => by cases z
theorem item_str (s : Str) : ItemTy K H (.str s) := .inl ⟨s, rfl⟩
theorem item_non : ItemTy K H .non := .inr ⟨_, .base .non, by decide +kernel, fun z e => by cases e⟩
theorem item_bl (b : Bool) : ItemTy K H (.bl b) := .inr ⟨_, .base (.bl b), by decide +kernel, fun z e => by cases e⟩
theorem item_int (i : Int) : ItemTy K H (.int i) := .inr ⟨_, .base (.int i), by decide +kernel, fun z e => by cases e⟩
theorem item_lst (h : H a = some (.lst xs)) : ItemTy K H (.ref a) := .inr ⟨_, .base (.lst h), by decide +kernel, fun z e => by cases e⟩
theorem item_tup (h : H a = some (.tup xs)) : ItemTy K H (.ref a) := .inr ⟨_, .base (.tup h), by decide +kernel, fun z e => by cases e⟩
theorem item_dic (h : H a = some (.dK [])) : ItemTy K H (.ref a) := .inr ⟨_, .base (.dK h), by decide +kernel, fun z e => by cases e⟩
theorem in_no {v : V} (h : ∀ z, v ≠ .str z) : inBook rs v = false := inBook_not h
theorem odd_non : OddAt K H rs .non .none := ⟨fun H' _ => ⟨.inl ⟨_, .base .non, by decide +kernel⟩, .of .non⟩, ⟨rfl, by decide, by decide⟩⟩
theorem odd_bl (b : Bool) : OddAt K H rs (.bl b) (.bool b) := ⟨fun H' _ => ⟨.inl ⟨_, .base (.bl b), by decide +kernel⟩, .of (.bl b)⟩, ⟨rfl, Nat.zero_le _, by show 5 ≤ _; decide⟩⟩
theorem odd_zero : OddAt K H rs (.int 0) (.int 0) := ⟨fun H' _ => ⟨.inl ⟨_, .base (.int 0), by decide +kernel⟩, .of (.int 0)⟩, ⟨by decide +kernel, Nat.zero_le _, by show 1921 ≤ _; decide⟩⟩
theorem small_text {s : Str} (h : fine (.str s) = true) (l : s.length ≤ 100) : Small (.str s) := ⟨h, Nat.zero_le _, by show 10 * s.length + 2 ≤ _; omega⟩
theorem odd_str {s : Str} (h : Small (.str s)) : OddAt K H rs (.str s) (.str s) := ⟨fun H' _ => ⟨.inl ⟨_, .base (.str s), by decide +kernel⟩, .of (.str s)⟩, h⟩
theorem odd_lst (h : H a = some (.lst xs)) (hd : ∀ H', LamX.ExtN H H' → DpAll K H' xs ds) (sm : Small (.list ds)) : OddAt K H rs (.ref a) (.list ds) := ⟨fun H' e => ⟨.inl ⟨_, .base (.lst (xlst h e)), by decide +kernel⟩, .of (.lst (SqL.of (xlst h e)) (hd H' e))⟩, sm⟩
theorem odd_dic (h : H a = some (.dK [])) : OddAt K H rs (.ref a) (.dict []) := ⟨fun H' e => ⟨.inl ⟨_, .base (.dK (e _ _ h fun ps z => by cases z)), by decide +kernel⟩, .emp (e _ _ h fun ps z => by cases z)⟩, ⟨rfl, by decide, by decide⟩⟩
theorem odd_tup (h : H a = some (.tup xs)) (it : ∀ H', LamX.ExtN H H' → ∀ x ∈ xs, ItemTy K H' x) (l : xs.length ≤ 1000) (no : 240 < xs.length ∨ xs.length ≤ 240 ∧ ∃ x ∈ xs, inBook rs x = false) (hd : ∀ H', LamX.ExtN H H' → DpAll K H' xs ds) (sm : Small (.tuple ds)) : OddAt K H rs (.ref a) (.tuple ds) :=
  ⟨fun H' e => ⟨.inr ⟨a, xs, rfl, xtup h e, l, no.imp id fun ⟨a, b⟩ => ⟨a, fun H2 s => it H2 (e.trans (LamX.ExtN.of s)), b⟩⟩, .of (.tup (SqT.of (xtup h e)) (hd H' e))⟩, sm⟩
theorem bad_non : BadName K H rs .non .none := ⟨fun H' _ => ⟨item_non, .of .non⟩, in_no (fun z e => by cases e), ⟨rfl, by decide, by decide⟩⟩
theorem bad_bl (b : Bool) : BadName K H rs (.bl b) (.bool b) := ⟨fun H' _ => ⟨item_bl b, .of (.bl b)⟩, in_no (fun z e => by cases e), ⟨rfl, Nat.zero_le _, by show 5 ≤ _; decide⟩⟩
theorem bad_zero : BadName K H rs (.int 0) (.int 0) := ⟨fun H' _ => ⟨item_int 0, .of (.int 0)⟩, in_no (fun z e => by cases e), ⟨by decide +kernel, Nat.zero_le _, by show 1921 ≤ _; decide⟩⟩
theorem bad_str {s : Str} (h : Small (.str s)) (no : inBook rs (.str s) = false) : BadName K H rs (.str s) (.str s) := ⟨fun H' _ => ⟨item_str s, .of (.str s)⟩, no, h⟩
theorem bad_lst (h : H a = some (.lst xs)) (hd : ∀ H', LamX.ExtN H H' → DpAll K H' xs ds) (sm : Small (.list ds)) : BadName K H rs (.ref a) (.list ds) := ⟨fun H' e => ⟨item_lst (xlst h e), .of (.lst (SqL.of (xlst h e)) (hd H' e))⟩, in_no (fun z e => by cases e), sm⟩
theorem bad_tup (h : H a = some (.tup xs)) (hd : ∀ H', LamX.ExtN H H' → DpAll K H' xs ds) (sm : Small (.tuple ds)) : BadName K H rs (.ref a) (.tuple ds) := ⟨fun H' e => ⟨item_tup (xtup h e), .of (.tup (SqT.of (xtup h e)) (hd H' e))⟩, in_no (fun z e => by cases e), sm⟩
theorem bad_dic (h : H a = some (.dK [])) : BadName K H rs (.ref a) (.dict []) := ⟨fun H' e => ⟨item_dic (e _ _ h fun ps z => by cases z), .emp (e _ _ h fun ps z => by cases z)⟩, in_no (fun z e => by cases e), ⟨rfl, by decide, by decide⟩⟩
end
theorem small_name {l : Str} (h : NameOk l) : Small (.str l) := small_text h.sign (by have := h.2.1; omega)
/-- small data of a few small parts -/
structure Tiny (d : PyData) : Prop where
  fine : fine d = true
  depth : d.depth ≤ 2
  wt : wt d ≤ 1000
theorem tiny_name {l : Str} (h : NameOk l) : Tiny (.str l) := ⟨h.sign, Nat.zero_le _, by have := h.2.1; show 10 * l.length + 2 ≤ _; omega⟩
theorem tiny_all : ∀ {ds : List PyData}, (∀ d ∈ ds, Tiny d) → fineAll ds = true ∧ PyData.depthAll ds ≤ 2 ∧ wtAll ds ≤ 1002 * ds.length
  | [], _ => ⟨rfl, by simp [PyData.depthAll], by decide⟩
  | d :: ds, h => by
    obtain ⟨a, b, c⟩ := tiny_all fun x hx => h x (.tail _ hx)
    have t := h d (.head _)
    refine ⟨by show (fine d && fineAll ds) = true; rw [t.fine, a]; rfl, ?_, ?_⟩
    · have := t.depth
      simp only [PyData.depthAll]
      omega
    · have := t.wt
      show wt d + 2 + wtAll ds ≤ _
      rw [List.length_cons]
      omega
theorem small_list {ds : List PyData} (h : ∀ d ∈ ds, Tiny d) (l : ds.length ≤ 300) : Small (.list ds) := by
  obtain ⟨a, b, c⟩ := tiny_all h
  exact ⟨a, by simp only [PyData.depth]; omega, by show wtAll ds + 2 ≤ _; omega⟩
theorem small_tuple {ds : List PyData} (h : ∀ d ∈ ds, Tiny d) (l : ds.length ≤ 300) : Small (.tuple ds) := by
  obtain ⟨a, b, c⟩ := tiny_all h
  exact ⟨a, by simp only [PyData.depth]; omega, by show wtAll ds + 3 ≤ _; omega⟩
theorem tiny_of1 {d : PyData} (h : Tiny d) : ∀ x ∈ [d], Tiny x := fun x hx => by
  rw [List.mem_singleton.mp hx]
  exact h
theorem tiny_of2 {d e : PyData} (h : Tiny d) (h2 : Tiny e) : ∀ x ∈ [d, e], Tiny x := fun x hx => by
  rcases List.mem_cons.mp hx with q | hx
  · rw [q]
    exact h
  · exact tiny_of1 h2 x hx
theorem tiny_rep {d : PyData} (n : Nat) (h : Tiny d) : ∀ x ∈ List.replicate n d, Tiny x := fun x hx => by
  rw [(List.mem_replicate.mp hx).2]
  exact h
theorem tiny_non : Tiny .none := ⟨rfl, by decide, by decide⟩
theorem tiny_lit : Tiny (.str "nokind") := ⟨by decide +kernel, Nat.zero_le _, by decide +kernel⟩
theorem tiny_t1 {l : Str} (h : NameOk l) : Tiny (.tuple [.str l]) := by
  have f : fine (.str l) = true := h.sign
  have := h.2.1
  refine ⟨by show (fine (.str l) && true) = true; rw [f]; rfl, by simp [PyData.depth, PyData.depthAll], ?_⟩
  show (10 * l.length + 2) + 2 + 0 + 3 ≤ 1000
  omega
theorem tiny_l1 {l : Str} (h : NameOk l) : Tiny (.list [.str l]) := by
  have f : fine (.str l) = true := h.sign
  have := h.2.1
  refine ⟨by show (fine (.str l) && true) = true; rw [f]; rfl, by simp [PyData.depth, PyData.depthAll], ?_⟩
  show (10 * l.length + 2) + 2 + 0 + 2 ≤ 1000
  omega
theorem dp_rep {K : PySem.W.Frag} {H : Hp} (s : Str) : ∀ n : Nat, DpAll K H (List.replicate n [V.str s]).flatten (List.replicate n (.str s))
  | 0 => .nil
  | n + 1 => .cons (.str s) (dp_rep s n)
theorem rep_len (s : Str) : ∀ n : Nat, ((List.replicate n [V.str s]).flatten).length = n
  | 0 => rfl
  | n + 1 => by
    rw [List.replicate_succ, List.flatten_cons, List.length_append, rep_len s n]
    simp only [List.length_cons, List.length_nil]
    omega
theorem rep_mem {s : Str} : ∀ {n : Nat} {x : V}, x ∈ (List.replicate n [V.str s]).flatten → x = .str s := fun {n x} h => by
  obtain ⟨l, hl, hx⟩ := List.mem_flatten.mp h
  rw [(List.mem_replicate.mp hl).2] at hx
  exact List.mem_singleton.mp hx
section
variable {K : PySem.W.Frag} {H : Hp} {rs : List Row} {a b : Addr} {l : Str}
theorem odd_l1 (nl : NameOk l) (h : H a = some (.lst [.str l])) : OddAt K H rs (.ref a) (.list [.str l]) := odd_lst h (fun _ _ => .cons (.str l) .nil) (small_list (tiny_of1 (tiny_name nl)) (by simp))
theorem odd_nil (h : H a = some (.lst [])) : OddAt K H rs (.ref a) (.list []) := odd_lst h (fun _ _ => .nil) (small_list (fun _ h => nomatch h) (by simp))
theorem item_two {x y : V} {H' : Hp} (hx : ItemTy K H' x) (hy : ItemTy K H' y) : ∀ z ∈ [x, y], ItemTy K H' z := fun z hz => by
  rcases List.mem_cons.mp hz with e | hz
  · rw [e]
    exact hx
  · rw [List.mem_singleton.mp hz]
    exact hy
theorem item_one {x : V} {H' : Hp} (hx : ItemTy K H' x) : ∀ z ∈ [x], ItemTy K H' z := fun z hz => by
  rw [List.mem_singleton.mp hz]
  exact hx
theorem odd_ln (nl : NameOk l) (no : inBook rs (.str "nokind") = false) (h : H a = some (.tup [.str l, .str "nokind"])) : OddAt K H rs (.ref a) (.tuple [.str l, .str "nokind"]) :=
  odd_tup h (fun _ _ => item_two (item_str _) (item_str _)) (by simp) (.inr ⟨by simp, _, .tail _ (.head _), no⟩) (fun _ _ => .cons (.str _) (.cons (.str _) .nil)) (small_tuple (tiny_of2 (tiny_name nl) tiny_lit) (by simp))
theorem odd_nl (nl : NameOk l) (no : inBook rs (.str "nokind") = false) (h : H a = some (.tup [.str "nokind", .str l])) : OddAt K H rs (.ref a) (.tuple [.str "nokind", .str l]) :=
  odd_tup h (fun _ _ => item_two (item_str _) (item_str _)) (by simp) (.inr ⟨by simp, _, .head _, no⟩) (fun _ _ => .cons (.str _) (.cons (.str _) .nil)) (small_tuple (tiny_of2 tiny_lit (tiny_name nl)) (by simp))
theorem odd_long (nl : NameOk l) (h : H a = some (.tup (List.replicate 241 [V.str l]).flatten)) : OddAt K H rs (.ref a) (.tuple (List.replicate 241 (.str l))) :=
  odd_tup h (fun _ _ x hx => by rw [rep_mem hx]; exact item_str _) (by rw [rep_len]; decide) (.inl (by rw [rep_len]; decide)) (fun _ _ => dp_rep l 241) (small_tuple (tiny_rep 241 (tiny_name nl)) (by rw [List.length_replicate]; decide))
theorem odd_n1 (h : H a = some (.tup [.non])) : OddAt K H rs (.ref a) (.tuple [.none]) :=
  odd_tup h (fun _ _ => item_one item_non) (by simp) (.inr ⟨by simp, _, .head _, in_no (fun z e => by cases e)⟩) (fun _ _ => .cons .non .nil) (small_tuple (tiny_of1 tiny_non) (by simp))
theorem odd_t1 (nl : NameOk l) (h : H a = some (.tup [.ref b])) (hb : H b = some (.tup [.str l])) : OddAt K H rs (.ref a) (.tuple [.tuple [.str l]]) :=
  odd_tup h (fun _ e => item_one (item_tup (xtup hb e))) (by simp) (.inr ⟨by simp, _, .head _, in_no (fun z e => by cases e)⟩) (fun _ e => .cons (.tup (SqT.of (xtup hb e)) (.cons (.str _) .nil)) .nil) (small_tuple (tiny_of1 (tiny_t1 nl)) (by simp))
theorem odd_tl (nl : NameOk l) (h : H a = some (.tup [.ref b])) (hb : H b = some (.lst [.str l])) : OddAt K H rs (.ref a) (.tuple [.list [.str l]]) :=
  odd_tup h (fun _ e => item_one (item_lst (xlst hb e))) (by simp) (.inr ⟨by simp, _, .head _, in_no (fun z e => by cases e)⟩) (fun _ e => .cons (.lst (SqL.of (xlst hb e)) (.cons (.str _) .nil)) .nil) (small_tuple (tiny_of1 (tiny_l1 nl)) (by simp))
theorem odd_on (nl : NameOk l) (h : H a = some (.tup [.str l, .non])) : OddAt K H rs (.ref a) (.tuple [.str l, .none]) :=
  odd_tup h (fun _ _ => item_two (item_str _) item_non) (by simp) (.inr ⟨by simp, _, .tail _ (.head _), in_no (fun z e => by cases e)⟩) (fun _ _ => .cons (.str _) (.cons .non .nil)) (small_tuple (tiny_of2 (tiny_name nl) tiny_non) (by simp))
theorem bad_l1 (nl : NameOk l) (h : H a = some (.lst [.str l])) : BadName K H rs (.ref a) (.list [.str l]) := bad_lst h (fun _ _ => .cons (.str l) .nil) (small_list (tiny_of1 (tiny_name nl)) (by simp))
theorem bad_nil (h : H a = some (.lst [])) : BadName K H rs (.ref a) (.list []) := bad_lst h (fun _ _ => .nil) (small_list (fun _ h => nomatch h) (by simp))
theorem bad_t1 (nl : NameOk l) (h : H a = some (.tup [.str l])) : BadName K H rs (.ref a) (.tuple [.str l]) := bad_tup h (fun _ _ => .cons (.str l) .nil) (small_tuple (tiny_of1 (tiny_name nl)) (by simp))
end
end N

set_option maxHeartbeats 4000000
/-! a def whose code object has a table -/
namespace L2
open PySem PySem.Spec PyProof.Rows
structure FunAtC (K : PySem.W.Frag) (mg : Str → Option Value) (x qual : Str) (st : Stmt) (c : Addr) : Prop where
  ex : ∃ (f : Addr) (oc : Value) (od : Option Addr) (kV doc pm : Value) (an : Option Addr) (ct : Value) (osl : Array (Option Value)), mg x = some (.ref f) ∧
    K.lookup f = some ⟨oc, od, .func (PySem.W.fnOf x qual (defArgs st) (defBody st) (defScope st) .none kV doc pm an (.ref c) ct), osl⟩ ∧ PySem.W.codeIn K (.ref c) qual = true ∧ PySem.W.keepIn K (.ref f) = true
section
variable {P : Program} {w : World} {K : PySem.W.Frag} {mg : Str → Option Value} {base : Heap}
theorem hasGC_of {x qual : Str} {st : Stmt} {c : Addr} {N ps : List Str} {k : Nat} {sp : Sp} (F : FunAtC K mg x qual st c) (S : FnScope N ps (defScope st))
    (hb : ∀ (kV doc pm : Value) (an : Option Addr) (cdv ct : Value) (us : List Value), us.length = ps.length → bindArgs (PySem.W.fnOf x qual (defArgs st) (defBody st) (defScope st) .none kV doc pm an cdv ct) ⟨us, []⟩ = pure (ps.zip us))
    (len : ∀ vs H Q E, sp vs H Q E → vs.length = ps.length)
    (body : ∀ (f : Addr) (A : Around) (outer : List Env) (s : Shared) (H : Hp) (vs : List V) (Q : VK) (E : XK),
      Calm (A.deeper (envOfC qual (defScope st) s.heap.objs.size f (.ref c))) → Room k (A.deeper (envOfC qual (defScope st) s.heap.objs.size f (.ref c))) → sp vs H Q E →
      ∃ t, PSs (cxOf CX0 P w K mg base N qual (defScope st) f (.ref c) A outer s H E).nox (defBody st) t ∧ t { nx := fun _ H' => Q .non H', rt := Q } (start N vs) H) :
    HasG P w K mg base x (k + 1) ps sp := by
  obtain ⟨f, oc, od, kV, doc, pm, an, ct, osl, hm, lk, hcd, hk⟩ := F.ex
  refine ⟨f, _, hm, hk, .all (hb kV doc pm an (.ref c) ct), len, fun A outer s H args us vs Q E hr hG e0 hbd r hsp => ?_⟩
  have KX : K.In s.heap := e0.mod.kin.keeps fun b o e => (e0.bs b o e).1
  have nl : s.heap.NoLimit := e0.mod.nolimit.keeps fun b o e => (e0.bs b o e).1
  have kinds : ∀ y ∈ ps.zip us, (defScope st).names.lookup y.1 = some .local ∨ ((defScope st).names.lookup y.1 = some .cell ∧ ((cellsFrom (s.heap.objs.size + 1) (defScope st).names []).lookup y.1).isSome = true) := by
    rintro ⟨n, v⟩ hy
    exact (S.par n (List.of_mem_zip hy).1).imp id fun q => ⟨q, PySem.W.cellsFrom_some _ _ _ (.inl q)⟩
  refine codeAny_call_function hr.depth (KX _ _ lk) rfl S.co S.gen rfl (PySem.W.codeRec_of KX hcd) (hbd _ _ _ _ (wpAny_newFunctionEnv_cells S.kind kinds fun env he s1 x => ?_))
  cases he
  obtain ⟨t, ht, hq⟩ := body f A outer s H vs Q E hG (hr.deeper _) hsp
  have I := inv_start (CX := CX0) (P := P) (w := w) (K := K) (mg := mg) (base := base) (qual := qual) (cd := .ref c) (E := E) S hr.hd e0 (len _ _ _ _ hsp) r x
  refine ⟨nl.keeps x.toInCall.keep, codeAny_func (wpAny_mono (ht.nox.run [] s1 (start N vs) H _ I hq) (fun fl s' hs => ?_) fun _ _ z => z)⟩
  have fin : ∀ {σ' : St} {H' : Hp} {v : V} {u : Value}, Inv (cxOf CX0 P w K mg base N qual (defScope st) f (.ref c) A outer s H E) [] σ' H' s' → RelV v u → Q v H' → CE outer P w H s Q u s' :=
    fun J rv q => ⟨_, _, J.os, J.bare, J.base, J.hok, rv, q⟩
  match fl, hs with
  | .ret u, ⟨v, σ', H', J, rv, q⟩ => exact fin J rv q
  | .next, ⟨σ', H', J, q⟩ => exact fin (v := V.non) (u := Value.none) J rfl q
  | .brk, ⟨_, _, _, q⟩ => exact q.elim
  | .cont, ⟨_, _, _, q⟩ => exact q.elim
end
end L2

set_option maxHeartbeats 4000000
namespace N
open PySem L2
def spOddRight (CB C : Addr) (T : List (Addr × Str)) : Sp := fun vs H Q _ => ∃ (b d : Addr) (rs : List Row), vs = [.ref b, .ref d] ∧ BookAt CB C H b rs (rowsSorted rs) ∧ ShopAt H d rs ∧ (∀ u ∈ rs, NameOk u.name) ∧ ("nokind" : Str) ∉ rs.map (·.name) ∧ rs ≠ [] ∧ rs.length ≤ 24 ∧ LamX.Tabs T H ∧
  ∀ H', LamX.ExtN H H' → LamX.Tabs T H' → Q (.bl true) H'
theorem cut_one (x : V) (xs : List V) : cutV (x :: xs) none (some 1) = [x] := by
  unfold cutV
  rw [HT.sIx_none, show (1 : Int) = ((1 : Nat) : Int) from rfl, HT.sIx_nat]
  simp
def bareRow (u : Row) : Bool := inV .non [ov u.back, ov u.mirror]
section
variable {P : Program} {w : World} {K : PySem.W.Frag} {mg : Str → Option Value} {base : Heap} {C CB : Addr} {Cs Es : Nat → Addr}
abbrev s__law_odd_right : Stmt := top 52
theorem sc__law_odd_right : FnScope ["_law_real", "_law_model", "_law_bare", "_law_label", "_law_one", "_law_odd", "_law_some", "_law_told_here"] ["_law_real", "_law_model"] (defScope s__law_odd_right) := ⟨rfl, rfl, rfl, by decide +kernel, rfl, by decide +kernel, by decide +kernel⟩
theorem h_law_odd_right {c Pt : Addr} {T : List (Addr × Str)} (B : Blts mg) (U : BookT K mg CB) (F : FunAtC K mg "_law_odd_right" "_law_odd_right" s__law_odd_right c) (FH : FunAt K mg "_law_heard" "_law_heard" s__law_heard) (TB : LamX.TabB base mg c Pt)
    (hmT : (Pt, ("_law_odd_right" : Str) ++ ".<locals>." ++ "<lambda>") ∈ T) (hu : ∀ p ∈ T, p.1 = Pt → p.2 = ("_law_odd_right" : Str) ++ ".<locals>." ++ "<lambda>")
    (TW : WoC K mg (Es 0) s_InvalidWord___init__) (TU : NoC K mg "UnknownKind" (Es 1) s_UnknownKind___init__ "UnknownKind.__init__") (hx : ∀ i j, i < 2 → j < 2 → PySem.W.exmOne K (.ref (Es i)) (.ref (Es j)) = some (decide (i = j)))
    (m_takenO : HasMX P w K mg base CB "taken" 4 ["self", "word"] (spOddX K CB C (Es 0))) (m_madeO : HasMX P w K mg base CB "made" 5 ["self", "word"] (spOddX K CB C (Es 0))) (m_yarn_ofO : HasMX P w K mg base CB "yarn_of" 4 ["self", "word"] (spOddX K CB C (Es 0))) (m_turnedO : HasMX P w K mg base CB "turned" 4 ["self", "word"] (spOddX K CB C (Es 0))) (m_mirroredO : HasMX P w K mg base CB "mirrored" 4 ["self", "word"] (spOddX K CB C (Es 0))) (m_kindX : HasMX P w K mg base CB "kind" 3 ["self", "name"] (spKindX K CB C (Es 1)))
    (m_is_wordX : HasM P w K mg base CB "is_word" 1 ["self", "value"] (spNotWord K CB C)) (m_is_word : HasM P w K mg base CB "is_word" 1 ["self", "value"] (spIsWord K CB C)) :
    HasG P w K mg base "_law_odd_right" 9 ["_law_real", "_law_model"] (spOddRight CB C T) := by
  obtain ⟨g, fdg, hmg, Fg⟩ := FH.ex
  have hkg := Fg.kp
  have hbg := Fg.binds (ps := ["_law_call"]) (fun _ _ _ _ _ _ us hl => match us, hl with | [_], _ => rfl)
  obtain ⟨ocg, odg, kVg, docg, pmg, ang, cdvg, ctg, oslg, rfl, lkg, hcg⟩ := Fg.ex
  refine hasGC_of F sc__law_odd_right (fun _ _ _ _ _ _ us hl => match us, hl with | [_, _], _ => rfl) (fun vs H Q E h => ?_) (fun f A outer s H vs Q E hG hr h => ?_)
  · obtain ⟨b, d, rs, rfl, _⟩ := h
    rfl
  · obtain ⟨b, d, rs, rfl, hb, hs, ok, nk, ne, l24, hT, k⟩ := h
    refine ⟨_, (pss_cons (ps_set (i := 2) sc__law_odd_right.nd rfl (Or.inl rfl) (pe_op op_cat (pe_lc (own := [("_law_label", 3)]) rfl sc__law_odd_right.nd (pi_list (pe_callB (call_sortedD rfl) (by rfl) B.n_sorted (by decide +kernel) (pa_cons (pv 1) pa_nil))) (blkOk_by (own := [("_law_label", 3)]) (N := ["_law_real", "_law_model", "_law_bare", "_law_label", "_law_one", "_law_odd", "_law_some", "_law_told_here"]) (sc := defScope s__law_odd_right) (by decide +kernel)) (fun _ _ _ _ _ => by exact (pg_name (i := 3) sc__law_odd_right.nd rfl (Or.inl rfl))) (fun _ _ _ _ _ => by exact (pts_one (pt_cmpR (op_in_seqK K) pe_non (pe_slice (sl_tupK K) (pe_dget hr.u1 (pv 1) (pv 3) (fun _ _ => rfl)) (po_some pe_int) (po_some pe_int)) (by first | exact nomark _ | rfl)))) (fun _ _ _ _ _ => by exact (pv 3))) (pe_slice sl_list (pe_callB (call_sortedD rfl) (by rfl) B.n_sorted (by decide +kernel) (pa_cons (pv 1) pa_nil)) po_none (po_some pe_int))))
      (pss_cons (ps_par (i := 3) (j := 4) (by rfl) sc__law_odd_right.nd rfl rfl (by decide) rfl rfl (pa_cons (pe_ix ix_list (pe_callB (call_sortedD rfl) (by rfl) B.n_sorted (by decide +kernel) (pa_cons (pv 1) pa_nil)) (pe_un un_neg pe_int) (fun _ _ => rfl)) (pa_cons (pe_ix ix_list (pv 2) pe_int (fun _ _ => rfl)) pa_nil)) (by rfl))
      (pss_cons (ps_set (i := 5) sc__law_odd_right.nd rfl (Or.inl rfl) (pe_lst (pa_cons pe_non (pa_cons pe_bl (pa_cons pe_int (pa_cons pe_str (pa_cons (pe_lst (pa_cons (pv 3) pa_nil)) (pa_cons (pe_tup (pa_cons (pv 3) (pa_cons pe_str pa_nil))) (pa_cons (pe_tup (pa_cons pe_str (pa_cons (pv 3) pa_nil))) (pa_cons (pe_tup (pa_cons (pv 4) (pa_cons pe_str pa_nil))) (pa_cons (pe_tup (pa_cons pe_str (pa_cons (pv 4) pa_nil))) pa_nil)))))))))))
      (pss_cons (ps_set (i := 5) sc__law_odd_right.nd rfl (Or.inl rfl) (pe_op op_cat (pv 5) (pe_lst (pa_cons (pe_op op_repT (pe_tup (pa_cons (pv 3) pa_nil)) pe_int) (pa_cons (pe_tup (pa_cons pe_non pa_nil)) (pa_cons (pe_tup (pa_cons (pe_tup (pa_cons (pv 3) pa_nil)) pa_nil)) (pa_cons (pe_tup (pa_cons (pe_lst (pa_cons (pv 3) pa_nil)) pa_nil)) (pa_cons pe_dnewK (pa_cons (pe_tup (pa_cons (pv 4) (pa_cons pe_non pa_nil))) (pa_cons (pe_lst pa_nil) (pa_cons (pe_op op_repT (pe_tup (pa_cons (pv 4) pa_nil)) pe_int) pa_nil)))))))))))
      (pss_cons (ps_for PassesOwn.never rfl (pi_list (pv 5)) (pg_name (i := 6) sc__law_odd_right.nd rfl (Or.inr rfl))
        (pss_cons (ps_set (i := 7) sc__law_odd_right.nd rfl (Or.inl rfl) (pe_lst (pa_cons (LamX.pe_lamcall (T := T) (TT := THeard K Es) rfl hmg hkg lkg hcg hbg sc__law_heard rfl (Or.inl rfl) (heard_gives B hG (hr.mono (by decide)) TW TU hx) TB rfl hmT hu (hr.mono (by decide)) (LamX.lamS_by (by show LamX.lamSB (defScope s__law_odd_right) _ = true; decide +kernel)) rfl (fun _ _ _ _ _ => rfl) (fun A outer s H E f c' hr2 => pe_hasMX m_takenO U.cl hr2 (passes_call (takes_of rfl rfl rfl rfl) (fun _ _ _ _ h => h)) (pv 0) (pa_cons (pv 6) pa_nil))) pa_nil)))
        (pss_cons (ps_expr (pe_bm PySem.F.plainAttrs_list PySem.F.slot_list_append PySem.F.type_list_append mt_append (pv 7) (pa_cons (LamX.pe_lamcall (T := T) (TT := THeard K Es) rfl hmg hkg lkg hcg hbg sc__law_heard rfl (Or.inl rfl) (heard_gives B hG (hr.mono (by decide)) TW TU hx) TB rfl hmT hu (hr.mono (by decide)) (LamX.lamS_by (by show LamX.lamSB (defScope s__law_odd_right) _ = true; decide +kernel)) rfl (fun _ _ _ _ _ => rfl) (fun A outer s H E f c' hr2 => pe_hasMX m_madeO U.cl hr2 (passes_call (takes_of rfl rfl rfl rfl) (fun _ _ _ _ h => h)) (pv 0) (pa_cons (pv 6) pa_nil))) pa_nil)))
        (pss_cons (ps_expr (pe_bm PySem.F.plainAttrs_list PySem.F.slot_list_append PySem.F.type_list_append mt_append (pv 7) (pa_cons (LamX.pe_lamcall (T := T) (TT := THeard K Es) rfl hmg hkg lkg hcg hbg sc__law_heard rfl (Or.inl rfl) (heard_gives B hG (hr.mono (by decide)) TW TU hx) TB rfl hmT hu (hr.mono (by decide)) (LamX.lamS_by (by show LamX.lamSB (defScope s__law_odd_right) _ = true; decide +kernel)) rfl (fun _ _ _ _ _ => rfl) (fun A outer s H E f c' hr2 => pe_hasMX m_yarn_ofO U.cl hr2 (passes_call (takes_of rfl rfl rfl rfl) (fun _ _ _ _ h => h)) (pv 0) (pa_cons (pv 6) pa_nil))) pa_nil)))
        (pss_cons (ps_expr (pe_bm PySem.F.plainAttrs_list PySem.F.slot_list_append PySem.F.type_list_append mt_append (pv 7) (pa_cons (LamX.pe_lamcall (T := T) (TT := THeard K Es) rfl hmg hkg lkg hcg hbg sc__law_heard rfl (Or.inl rfl) (heard_gives B hG (hr.mono (by decide)) TW TU hx) TB rfl hmT hu (hr.mono (by decide)) (LamX.lamS_by (by show LamX.lamSB (defScope s__law_odd_right) _ = true; decide +kernel)) rfl (fun _ _ _ _ _ => rfl) (fun A outer s H E f c' hr2 => pe_hasMX m_turnedO U.cl hr2 (passes_call (takes_of rfl rfl rfl rfl) (fun _ _ _ _ h => h)) (pv 0) (pa_cons (pv 6) pa_nil))) pa_nil)))
        (pss_cons (ps_expr (pe_bm PySem.F.plainAttrs_list PySem.F.slot_list_append PySem.F.type_list_append mt_append (pv 7) (pa_cons (LamX.pe_lamcall (T := T) (TT := THeard K Es) rfl hmg hkg lkg hcg hbg sc__law_heard rfl (Or.inl rfl) (heard_gives B hG (hr.mono (by decide)) TW TU hx) TB rfl hmT hu (hr.mono (by decide)) (LamX.lamS_by (by show LamX.lamSB (defScope s__law_odd_right) _ = true; decide +kernel)) rfl (fun _ _ _ _ _ => rfl) (fun A outer s H E f c' hr2 => pe_hasMX m_mirroredO U.cl hr2 (passes_call (takes_of rfl rfl rfl rfl) (fun _ _ _ _ h => h)) (pv 0) (pa_cons (pv 6) pa_nil))) pa_nil)))
        (pss_one (ps_if (PW.pt (pw_or (pt_cmpR (op_neD hr.units) (pv 7) (pe_op op_rep (pe_lst (pa_cons (pe_lst (pa_cons pe_str (pa_cons (pe_callB (call_reprO (B := 8) hG (Nat.lt_of_le_of_lt (Nat.add_le_add_left (by decide) _) hr.units)) (by rfl) B.n_repr (by decide +kernel) (pa_cons (pv 6) pa_nil)) pa_nil))) pa_nil)) pe_int) (by first | exact nomark _ | rfl)) (pw_or1 (pt_cmpR op_ne (pe_callB call_repr_bool (by rfl) B.n_repr (by decide +kernel) (pa_cons (pe_hasM m_is_wordX U.cl (hr.mono (by decide)) (pv 0) (pa_cons (pv 6) pa_nil)) pa_nil)) pe_str (by first | exact nomark _ | rfl))))) (pss_one (ps_ret pe_bl))
          pss_nil))))))))
      (pss_cons (ps_for PassesOwn.never rfl (pi_list (pe_lst (pa_cons pe_non (pa_cons pe_bl (pa_cons pe_int (pa_cons pe_str (pa_cons pe_str (pa_cons pe_str (pa_cons (pe_lst (pa_cons (pv 3) pa_nil)) (pa_cons (pe_tup (pa_cons (pv 3) pa_nil)) (pa_cons (pe_lst pa_nil) (pa_cons pe_dnewK pa_nil)))))))))))) (pg_name (i := 6) sc__law_odd_right.nd rfl (Or.inr rfl))
        (pss_one (ps_if (pt_cmpR (op_neD hr.units) (LamX.pe_lamcall (T := T) (TT := THeard K Es) rfl hmg hkg lkg hcg hbg sc__law_heard rfl (Or.inl rfl) (heard_gives B hG (hr.mono (by decide)) TW TU hx) TB rfl hmT hu (hr.mono (by decide)) (LamX.lamS_by (by show LamX.lamSB (defScope s__law_odd_right) _ = true; decide +kernel)) rfl (fun _ _ _ _ _ => rfl) (fun A outer s H E f c' hr2 => pe_hasMX m_kindX U.cl hr2 (passes_call (takes_of rfl rfl rfl rfl) (fun _ _ _ _ h => h)) (pv 0) (pa_cons (pv 6) pa_nil))) (pe_lst (pa_cons pe_str (pa_cons (pe_callB (call_reprO (B := 8) hG (Nat.lt_of_le_of_lt (Nat.add_le_add_left (by decide) _) hr.units)) (by rfl) B.n_repr (by decide +kernel) (pa_cons (pv 6) pa_nil)) pa_nil))) (by first | exact nomark _ | rfl)) (pss_one (ps_ret pe_bl))
          pss_nil)))
      (pss_one (ps_ret (pe_and (pe_hasM m_is_word U.cl (hr.mono (by decide)) (pv 0) (pa_cons (pe_op op_repT (pe_tup (pa_cons (pv 3) pa_nil)) pe_int) pa_nil)) (pe_one (pe_hasM m_is_word U.cl (hr.mono (by decide)) (pv 0) (pa_cons (pe_tup pa_nil) pa_nil)))))))))))), ?_⟩
    obtain ⟨kvs, hd, hk⟩ := id hs
    obtain ⟨dx, tb, db, bas, bbs, hbi, _, _, _, _, nd⟩ := id hb
    have lq : (rowsSorted rs).length = rs.length := by have := (rowsSorted_names rs).1.length_eq; simpa using this
    have msort : ∀ u, u ∈ rowsSorted rs ↔ u ∈ rs := fun u => (List.mergeSort_perm _ _).mem_iff
    have noK : inBook rs (.str "nokind") = false := decide_eq_false nk
    have wl : ((rowsSorted rs).map fun u => V.str u.name).length = (rowsSorted rs).length := List.length_map _
    obtain ⟨w0, wr, ew⟩ : ∃ u ws, rowsSorted rs = u :: ws := by
      cases e : rowsSorted rs with
      | nil =>
        rw [e] at lq
        exact absurd (List.length_eq_zero_iff.mp lq.symm) ne
      | cons u ws => exact ⟨u, ws, rfl⟩
    have l10 : (rs.map (·.name)).length < 64 := by rw [List.length_map]; omega
    refine ⟨_, rfl, d, kvs, rs.map (·.name), rfl, .inl hd, ShopAt.keys hk, l10, fun names nl pm so nn => ?_⟩
    obtain rfl := sorted_are pm so
    have s1 : Same H (upd H nl (.lst (((rowsSorted rs).map (·.name)).map V.str))) := Same.new nn
    generalize hH1 : upd H nl (.lst (((rowsSorted rs).map (·.name)).map V.str)) = H1 at s1 ⊢
    have hn1 : H1 nl = some (.lst ((rowsSorted rs).map fun u => .str u.name)) := by rw [← hH1, upd_same, List.map_map]; rfl
    refine ⟨nl, rfl, ⟨_, SqL.of hn1⟩, fun D nD => lc_filt walk_list (atD (rowsSorted rs) (fun u => V.str u.name) .non) (atD (rowsSorted rs) bareRow false) nD (by rw [wl]; omega) (fun H' s' => SqL.of (s' _ _ hn1)) ?_ ?_⟩
    · rintro i x H2 H3 hi s2 ⟨rfl, hx⟩ R S hR hS
      rw [List.getElem?_map] at hx
      cases hu : (rowsSorted rs)[i]? with
      | none => rw [hu] at hx; cases hx
      | some u =>
        rw [hu] at hx
        cases (Option.some.inj hx : V.str u.name = x)
        obtain ⟨a, g, ra⟩ := shop_get hk nd u ((msort u).mp (List.mem_of_getElem? hu))
        have ra3 := s2 _ _ (s1 _ _ ra)
        have hd3 := s2 _ _ (s1 _ _ hd)
        rw [atD_some hu] at hR hS
        rw [atD_some hu] at hR
        have fl : ([ov u.back, ov u.mirror] : List V).all flatV = true := by cases u.back <;> cases u.mirror <;> rfl
        refine ⟨rfl, _, rfl, _, rfl, d, .ref a, rfl, .inl ⟨kvs, .inr u.name, .inl hd3, rfl, g.symm⟩, _, rfl, _, rfl, a, _, rfl, SqT.of ra3, (fun z => absurd (show HT.sIx 5 0 (some 2) = 0 from z.1) (by decide)), fun p np => ⟨p, [ov u.back, ov u.mirror], rfl, .inr (SqT.of upd_same), rfl, fl, _, rfl, ite2 (fun c => ⟨_, rfl, hR c _ (Same.new np)⟩) (fun c => hS (by have z : ¬ bareRow u = true := c; simpa using z) _ (Same.new np))⟩⟩
    · intro H2 s2 hD
      rw [wl, filt_range] at hD
      have s02 := s1.trans s2
      refine ⟨_, rfl, d, kvs, rs.map (·.name), rfl, .inl (s02 _ _ hd), ShopAt.keys hk, l10, fun names2 nl2 pm2 so2 nn2 => ?_⟩
      obtain rfl := sorted_are pm2 so2
      have s3 : Same H2 (upd H2 nl2 (.lst (((rowsSorted rs).map (·.name)).map V.str))) := Same.new nn2
      refine ⟨_, rfl, nl2, _, rfl, SqL.of upd_same, fun p np => ?_⟩
      have s4 : Same (upd H2 nl2 (.lst (((rowsSorted rs).map (·.name)).map V.str))) (upd (upd H2 nl2 (.lst (((rowsSorted rs).map (·.name)).map V.str))) p (.lst (cutV (((rowsSorted rs).map (·.name)).map V.str) none (some 1)))) := Same.new np
      have ecut : cutV (((rowsSorted rs).map (·.name)).map V.str) none (some 1) = [.str w0.name] := by
        rw [ew]
        exact cut_one _ _
      refine ⟨D, p, _, _, rfl, rfl, (s3.trans s4) _ _ hD, upd_same, ?len, fun q nq => ?_⟩
      case len =>
        rw [ecut, List.length_map]
        have := List.length_filter_le bareRow (rowsSorted rs)
        exact Nat.le_trans (by simp only [List.length_cons, List.length_nil]; omega : _ ≤ 30) (by decide)
      rw [ecut]
      have s5 : Same H (upd (upd (upd H2 nl2 (.lst (((rowsSorted rs).map (·.name)).map V.str))) p (.lst (cutV (((rowsSorted rs).map (·.name)).map V.str) none (some 1)))) q (.lst (((rowsSorted rs).filter bareRow).map (fun u => V.str u.name) ++ [.str w0.name]))) := (s02.trans (s3.trans s4)).trans (Same.new nq)
      have hq5 : (upd (upd (upd H2 nl2 (.lst (((rowsSorted rs).map (·.name)).map V.str))) p (.lst (cutV (((rowsSorted rs).map (·.name)).map V.str) none (some 1)))) q (.lst (((rowsSorted rs).filter bareRow).map (fun u => V.str u.name) ++ [.str w0.name]))) q = some (.lst (((rowsSorted rs).filter bareRow).map (fun u => V.str u.name) ++ [.str w0.name])) := upd_same
      rw [ecut] at s5 hq5
      generalize upd (upd (upd H2 nl2 (.lst (((rowsSorted rs).map (·.name)).map V.str))) p (.lst [.str w0.name])) q (.lst (((rowsSorted rs).filter bareRow).map (fun u => V.str u.name) ++ [.str w0.name])) = H5 at s5 hq5 ⊢
      refine next_of ?_
      dsimp only
      -- the two labels
      obtain ⟨one, mo, h0⟩ : ∃ u : Row, u ∈ rs ∧ atI (((rowsSorted rs).filter bareRow).map (fun u => V.str u.name) ++ [.str w0.name]) 0 = some (.str u.name) := by
        have m0 : w0 ∈ rs := (msort w0).mp (by rw [ew]; exact .head _)
        cases ef : (rowsSorted rs).filter bareRow with
        | nil => exact ⟨w0, m0, atI_nat (j := 0) rfl⟩
        | cons u us => exact ⟨u, (msort u).mp (List.mem_filter.mp (by rw [ef]; exact .head _ : u ∈ (rowsSorted rs).filter bareRow)).1, atI_nat (j := 0) rfl⟩
      obtain ⟨lab, ml, hlast⟩ : ∃ u : Row, u ∈ rs ∧ atI (((rowsSorted rs).map (·.name)).map V.str) (-1) = some (.str u.name) := by
        rcases List.eq_nil_or_concat (rowsSorted rs) with e | ⟨l, x, e⟩
        · rw [e] at ew
          cases ew
        · refine ⟨x, (msort x).mp (by rw [e]; simp), ?_⟩
          rw [e, List.concat_eq_append, List.map_append, List.map_append]
          exact atI_last _ _
      refine ⟨_, rfl, d, kvs, rs.map (·.name), rfl, .inl (s5 _ _ hd), ShopAt.keys hk, l10, fun names3 nl3 pm3 so3 nn3 => ?_⟩
      obtain rfl := sorted_are pm3 so3
      have s6 : Same H5 (upd H5 nl3 (.lst (((rowsSorted rs).map (·.name)).map V.str))) := Same.new nn3
      refine ⟨_, rfl, nl3, _, -1, _, rfl, rfl, SqL.of upd_same, hlast, _, rfl, q, _, 0, _, rfl, rfl, SqL.of (s6 _ _ hq5), h0, ?_⟩
      have s06 := s5.trans s6
      generalize upd H5 nl3 (.lst (((rowsSorted rs).map (·.name)).map V.str)) = H6 at s06 ⊢
      refine ⟨_, _, rfl, ?_⟩
      dsimp only
      refine ⟨_, rfl, (by show 1 ≤ sizeLine; decide), fun a4 na4 => ?_⟩
      generalize eJ1 : upd H6 a4 _ = J1
      have SJ1 : Same H6 J1 := by
        rw [← eJ1]
        exact Same.new na4
      have Fa4 : J1 a4 = some (.lst [.str lab.name]) := by
        rw [← eJ1]
        exact upd_same
      clear eJ1
      refine ⟨_, rfl, (by show 2 ≤ sizeLine; decide), fun a5 na5 => ?_⟩
      generalize eJ2 : upd J1 a5 _ = J2
      have SJ2 : Same J1 J2 := by
        rw [← eJ2]
        exact Same.new na5
      have Fa5 : J2 a5 = some (.tup [.str lab.name, .str "nokind"]) := by
        rw [← eJ2]
        exact upd_same
      clear eJ2
      refine ⟨_, rfl, (by show 2 ≤ sizeLine; decide), fun a6 na6 => ?_⟩
      generalize eJ3 : upd J2 a6 _ = J3
      have SJ3 : Same J2 J3 := by
        rw [← eJ3]
        exact Same.new na6
      have Fa6 : J3 a6 = some (.tup [.str "nokind", .str lab.name]) := by
        rw [← eJ3]
        exact upd_same
      clear eJ3
      refine ⟨_, rfl, (by show 2 ≤ sizeLine; decide), fun a7 na7 => ?_⟩
      generalize eJ4 : upd J3 a7 _ = J4
      have SJ4 : Same J3 J4 := by
        rw [← eJ4]
        exact Same.new na7
      have Fa7 : J4 a7 = some (.tup [.str one.name, .str "nokind"]) := by
        rw [← eJ4]
        exact upd_same
      clear eJ4
      refine ⟨_, rfl, (by show 2 ≤ sizeLine; decide), fun a8 na8 => ?_⟩
      generalize eJ5 : upd J4 a8 _ = J5
      have SJ5 : Same J4 J5 := by
        rw [← eJ5]
        exact Same.new na8
      have Fa8 : J5 a8 = some (.tup [.str "nokind", .str one.name]) := by
        rw [← eJ5]
        exact upd_same
      clear eJ5
      refine ⟨(by show 9 ≤ sizeLine; decide), fun o1 no1 => ?_⟩
      generalize eJ6 : upd J5 o1 _ = J6
      have SJ6 : Same J5 J6 := by
        rw [← eJ6]
        exact Same.new no1
      have Fo1 : J6 o1 = some (.lst [V.non, .bl true, .int 0, .str "k", .ref a4, .ref a5, .ref a6, .ref a7, .ref a8]) := by
        rw [← eJ6]
        exact upd_same
      clear eJ6
      refine next_of ?_
      dsimp only
      refine ⟨_, rfl, _, rfl, (by show 1 ≤ sizeLine; decide), fun b0 nb0 => ?_⟩
      generalize eJ7 : upd J6 b0 _ = J7
      have SJ7 : Same J6 J7 := by
        rw [← eJ7]
        exact Same.new nb0
      have Fb0 : J7 b0 = some (.tup [.str lab.name]) := by
        rw [← eJ7]
        exact upd_same
      clear eJ7
      refine ⟨b0, 241, _, rfl, rfl, SqT.of Fb0, (fun z => by cases z), by decide, by decide, (by show 1 ≤ 1000; decide), fun a9 na9 => ?_⟩
      generalize eJ8 : upd J7 a9 _ = J8
      have SJ8 : Same J7 J8 := by
        rw [← eJ8]
        exact Same.new na9
      have Fa9 : J8 a9 = some (.tup (List.replicate 241 [V.str lab.name]).flatten) := by
        rw [← eJ8]
        exact upd_same
      clear eJ8
      refine ⟨(by show 1 ≤ sizeLine; decide), fun a10 na10 => ?_⟩
      generalize eJ9 : upd J8 a10 _ = J9
      have SJ9 : Same J8 J9 := by
        rw [← eJ9]
        exact Same.new na10
      have Fa10 : J9 a10 = some (.tup [.non]) := by
        rw [← eJ9]
        exact upd_same
      clear eJ9
      refine ⟨_, rfl, (by show 1 ≤ sizeLine; decide), fun b1 nb1 => ?_⟩
      generalize eJ10 : upd J9 b1 _ = J10
      have SJ10 : Same J9 J10 := by
        rw [← eJ10]
        exact Same.new nb1
      have Fb1 : J10 b1 = some (.tup [.str lab.name]) := by
        rw [← eJ10]
        exact upd_same
      clear eJ10
      refine ⟨(by show 1 ≤ sizeLine; decide), fun a11 na11 => ?_⟩
      generalize eJ11 : upd J10 a11 _ = J11
      have SJ11 : Same J10 J11 := by
        rw [← eJ11]
        exact Same.new na11
      have Fa11 : J11 a11 = some (.tup [.ref b1]) := by
        rw [← eJ11]
        exact upd_same
      clear eJ11
      refine ⟨_, rfl, (by show 1 ≤ sizeLine; decide), fun b2 nb2 => ?_⟩
      generalize eJ12 : upd J11 b2 _ = J12
      have SJ12 : Same J11 J12 := by
        rw [← eJ12]
        exact Same.new nb2
      have Fb2 : J12 b2 = some (.lst [.str lab.name]) := by
        rw [← eJ12]
        exact upd_same
      clear eJ12
      refine ⟨(by show 1 ≤ sizeLine; decide), fun a12 na12 => ?_⟩
      generalize eJ13 : upd J12 a12 _ = J13
      have SJ13 : Same J12 J13 := by
        rw [← eJ13]
        exact Same.new na12
      have Fa12 : J13 a12 = some (.tup [.ref b2]) := by
        rw [← eJ13]
        exact upd_same
      clear eJ13
      refine fun a13 na13 => ?_
      generalize eJ14 : upd J13 a13 _ = J14
      have SJ14 : Same J13 J14 := by
        rw [← eJ14]
        exact Same.new na13
      have Fa13 : J14 a13 = some (.dK []) := by
        rw [← eJ14]
        exact upd_same
      clear eJ14
      refine ⟨_, rfl, (by show 2 ≤ sizeLine; decide), fun a14 na14 => ?_⟩
      generalize eJ15 : upd J14 a14 _ = J15
      have SJ15 : Same J14 J15 := by
        rw [← eJ15]
        exact Same.new na14
      have Fa14 : J15 a14 = some (.tup [.str one.name, .non]) := by
        rw [← eJ15]
        exact upd_same
      clear eJ15
      refine ⟨(by show 0 ≤ sizeLine; decide), fun a15 na15 => ?_⟩
      generalize eJ16 : upd J15 a15 _ = J16
      have SJ16 : Same J15 J16 := by
        rw [← eJ16]
        exact Same.new na15
      have Fa15 : J16 a15 = some (.lst []) := by
        rw [← eJ16]
        exact upd_same
      clear eJ16
      refine ⟨_, rfl, (by show 1 ≤ sizeLine; decide), fun b3 nb3 => ?_⟩
      generalize eJ17 : upd J16 b3 _ = J17
      have SJ17 : Same J16 J17 := by
        rw [← eJ17]
        exact Same.new nb3
      have Fb3 : J17 b3 = some (.tup [.str one.name]) := by
        rw [← eJ17]
        exact upd_same
      clear eJ17
      refine ⟨b3, 241, _, rfl, rfl, SqT.of Fb3, (fun z => by cases z), by decide, by decide, (by show 1 ≤ 1000; decide), fun a16 na16 => ?_⟩
      generalize eJ18 : upd J17 a16 _ = J18
      have SJ18 : Same J17 J18 := by
        rw [← eJ18]
        exact Same.new na16
      have Fa16 : J18 a16 = some (.tup (List.replicate 241 [V.str one.name]).flatten) := by
        rw [← eJ18]
        exact upd_same
      clear eJ18
      refine ⟨(by show 8 ≤ sizeLine; decide), fun o2 no2 => ?_⟩
      generalize eJ19 : upd J18 o2 _ = J19
      have SJ19 : Same J18 J19 := by
        rw [← eJ19]
        exact Same.new no2
      have Fo2 : J19 o2 = some (.lst [V.ref a9, .ref a10, .ref a11, .ref a12, .ref a13, .ref a14, .ref a15, .ref a16]) := by
        rw [← eJ19]
        exact upd_same
      clear eJ19
      have FO1 := (((((((((((((SJ7).trans SJ8).trans SJ9).trans SJ10).trans SJ11).trans SJ12).trans SJ13).trans SJ14).trans SJ15).trans SJ16).trans SJ17).trans SJ18).trans SJ19) _ _ Fo1
      refine ⟨o1, o2, _, _, rfl, rfl, FO1, Fo2, (by show 9 + 8 ≤ sizeLine; decide), fun oo noo => ?_⟩
      generalize eJ20 : upd J19 oo _ = J20
      have SJ20 : Same J19 J20 := by
        rw [← eJ20]
        exact Same.new noo
      have Foo : J20 oo = some (.lst [V.non, .bl true, .int 0, .str "k", .ref a4, .ref a5, .ref a6, .ref a7, .ref a8, .ref a9, .ref a10, .ref a11, .ref a12, .ref a13, .ref a14, .ref a15, .ref a16]) := by
        rw [← eJ20]
        exact upd_same
      clear eJ20
      have ZJ20 : Same J20 J20 := Same.refl _
      have ZJ19 : Same J19 J20 := SJ20.trans ZJ20
      have ZJ18 : Same J18 J20 := SJ19.trans ZJ19
      have ZJ17 : Same J17 J20 := SJ18.trans ZJ18
      have ZJ16 : Same J16 J20 := SJ17.trans ZJ17
      have ZJ15 : Same J15 J20 := SJ16.trans ZJ16
      have ZJ14 : Same J14 J20 := SJ15.trans ZJ15
      have ZJ13 : Same J13 J20 := SJ14.trans ZJ14
      have ZJ12 : Same J12 J20 := SJ13.trans ZJ13
      have ZJ11 : Same J11 J20 := SJ12.trans ZJ12
      have ZJ10 : Same J10 J20 := SJ11.trans ZJ11
      have ZJ9 : Same J9 J20 := SJ10.trans ZJ10
      have ZJ8 : Same J8 J20 := SJ9.trans ZJ9
      have ZJ7 : Same J7 J20 := SJ8.trans ZJ8
      have ZJ6 : Same J6 J20 := SJ7.trans ZJ7
      have ZJ5 : Same J5 J20 := SJ6.trans ZJ6
      have ZJ4 : Same J4 J20 := SJ5.trans ZJ5
      have ZJ3 : Same J3 J20 := SJ4.trans ZJ4
      have ZJ2 : Same J2 J20 := SJ3.trans ZJ3
      have ZJ1 : Same J1 J20 := SJ2.trans ZJ2
      have ZJ0 : Same H6 J20 := SJ1.trans ZJ1
      replace Fa4 := ZJ1 _ _ Fa4
      replace Fa5 := ZJ2 _ _ Fa5
      replace Fa6 := ZJ3 _ _ Fa6
      replace Fa7 := ZJ4 _ _ Fa7
      replace Fa8 := ZJ5 _ _ Fa8
      replace Fo1 := ZJ6 _ _ Fo1
      replace Fb0 := ZJ7 _ _ Fb0
      replace Fa9 := ZJ8 _ _ Fa9
      replace Fa10 := ZJ9 _ _ Fa10
      replace Fb1 := ZJ10 _ _ Fb1
      replace Fa11 := ZJ11 _ _ Fa11
      replace Fb2 := ZJ12 _ _ Fb2
      replace Fa12 := ZJ13 _ _ Fa12
      replace Fa13 := ZJ14 _ _ Fa13
      replace Fa14 := ZJ15 _ _ Fa14
      replace Fa15 := ZJ16 _ _ Fa15
      replace Fb3 := ZJ17 _ _ Fb3
      replace Fa16 := ZJ18 _ _ Fa16
      replace Fo2 := ZJ19 _ _ Fo2
      replace Foo := ZJ20 _ _ Foo
      have nlab := ok lab ml
      have none_ := ok one mo
      have smallk : Small (.str "k") := ⟨by decide +kernel, Nat.zero_le _, by decide +kernel⟩
      have good : ∀ x ∈ [V.non, .bl true, .int 0, .str "k", .ref a4, .ref a5, .ref a6, .ref a7, .ref a8, .ref a9, .ref a10, .ref a11, .ref a12, .ref a13, .ref a14, .ref a15, .ref a16], ∃ dt, OddAt K J20 rs x dt := fun x hx => by
        simp only [List.mem_cons, List.mem_nil_iff, or_false] at hx
        rcases hx with rfl | rfl | rfl | rfl | rfl | rfl | rfl | rfl | rfl | rfl | rfl | rfl | rfl | rfl | rfl | rfl | rfl
        · exact ⟨_, odd_non⟩
        · exact ⟨_, odd_bl true⟩
        · exact ⟨_, odd_zero⟩
        · exact ⟨_, odd_str smallk⟩
        · exact ⟨_, odd_l1 nlab Fa4⟩
        · exact ⟨_, odd_ln nlab noK Fa5⟩
        · exact ⟨_, odd_nl nlab noK Fa6⟩
        · exact ⟨_, odd_ln none_ noK Fa7⟩
        · exact ⟨_, odd_nl none_ noK Fa8⟩
        · exact ⟨_, odd_long nlab Fa9⟩
        · exact ⟨_, odd_n1 Fa10⟩
        · exact ⟨_, odd_t1 nlab Fa11 Fb1⟩
        · exact ⟨_, odd_tl nlab Fa12 Fb2⟩
        · exact ⟨_, odd_dic Fa13⟩
        · exact ⟨_, odd_on none_ Fa14⟩
        · exact ⟨_, odd_nil Fa15⟩
        · exact ⟨_, odd_long none_ Fa16⟩
      have key : ∀ x y : V, x = y → V.bl (!decide (x = y)) = V.bl false := fun x y h => by
        subst h
        simp
      have s0L := s06.trans ZJ0
      have hbL := hb.same s0L
      have TL : LamX.Tabs T J20 := fun p hp => (hT p hp).ext s0L
      refine next_of ?_
      dsimp only
      refine ⟨_, rfl, oo, rfl, ⟨_, SqL.of Foo⟩, for_list (K := K) (a := oo) (xs := [V.non, .bl true, .int 0, .str "k", .ref a4, .ref a5, .ref a6, .ref a7, .ref a8, .ref a9, .ref a10, .ref a11, .ref a12, .ref a13, .ref a14, .ref a15, .ref a16]) (fun i σ H' => ∃ v6 v7 : Option V, σ = [some (.ref b), some (.ref d), some (.ref q), some (.str lab.name), some (.str one.name), some (.ref oo), v6, v7] ∧ LamX.ExtN J20 H' ∧ LamX.Tabs T H') ⟨none, none, rfl, LamX.ExtN.refl _, TL⟩ (fun i σ H' _ h => ?_) (fun i x σ H' hx h => ?_) (fun σ H' h => ?_)⟩
      · obtain ⟨_, _, _, e, _⟩ := h
        exact SqL.of (xlst Foo e)
      · obtain ⟨v6, v7, rfl, e, tb⟩ := h
        obtain ⟨dt, ho0⟩ := good x (List.mem_of_getElem? hx)
        have ho := ho0.xt e
        have hbt := hbL.xt e
        clear ho0
        refine ⟨tb, fun H0a e0a T0a => heard_word (m := "taken") rfl rfl (fun _ _ => rfl) (hbt.xt e0a) (ho.xt e0a) fun t0 H0b s0 n0 => ⟨(by show 1 ≤ sizeLine; decide), fun M nM => ?_⟩⟩
        have W1 := ToldN.first e0a T0a s0 n0 nM
        refine next_of ?_
        dsimp only
        clear nM
        generalize upd (upd H0b t0 _) M _ = N1 at W1 ⊢
        obtain ⟨as1, la1, m1, _⟩ := id W1.ex

        refine ⟨_, rfl, .inl ⟨rfl, _, SqL.of m1⟩, W1.tabs, fun H1a e1a T1a => heard_word (m := "made") rfl rfl (fun _ _ => rfl) ((hbt.xt W1.ext).xt e1a) ((ho.xt W1.ext).xt e1a) fun t1 H1b s1 n1 => ?_⟩
        obtain ⟨xs1, l1, q1, W2⟩ := W1.more e1a T1a s1 n1
        refine ⟨M, xs1, .ref t1, rfl, rfl, q1, by rw [l1]; show 1 < sizeLine; decide, ?_⟩
        refine next_of ?_
        dsimp only
        clear q1
        generalize upd (upd H1b t1 _) M _ = N2 at W2 ⊢
        obtain ⟨as2, la2, m2, _⟩ := id W2.ex

        refine ⟨_, rfl, .inl ⟨rfl, _, SqL.of m2⟩, W2.tabs, fun H2a e2a T2a => heard_word (m := "yarn_of") rfl rfl (fun _ _ => rfl) ((hbt.xt W2.ext).xt e2a) ((ho.xt W2.ext).xt e2a) fun t2 H2b s2 n2 => ?_⟩
        obtain ⟨xs2, l2, q2, W3⟩ := W2.more e2a T2a s2 n2
        refine ⟨M, xs2, .ref t2, rfl, rfl, q2, by rw [l2]; show 2 < sizeLine; decide, ?_⟩
        refine next_of ?_
        dsimp only
        clear q2
        generalize upd (upd H2b t2 _) M _ = N3 at W3 ⊢
        obtain ⟨as3, la3, m3, _⟩ := id W3.ex

        refine ⟨_, rfl, .inl ⟨rfl, _, SqL.of m3⟩, W3.tabs, fun H3a e3a T3a => heard_word (m := "turned") rfl rfl (fun _ _ => rfl) ((hbt.xt W3.ext).xt e3a) ((ho.xt W3.ext).xt e3a) fun t3 H3b s3 n3 => ?_⟩
        obtain ⟨xs3, l3, q3, W4⟩ := W3.more e3a T3a s3 n3
        refine ⟨M, xs3, .ref t3, rfl, rfl, q3, by rw [l3]; show 3 < sizeLine; decide, ?_⟩
        refine next_of ?_
        dsimp only
        clear q3
        generalize upd (upd H3b t3 _) M _ = N4 at W4 ⊢
        obtain ⟨as4, la4, m4, _⟩ := id W4.ex

        refine ⟨_, rfl, .inl ⟨rfl, _, SqL.of m4⟩, W4.tabs, fun H4a e4a T4a => heard_word (m := "mirrored") rfl rfl (fun _ _ => rfl) ((hbt.xt W4.ext).xt e4a) ((ho.xt W4.ext).xt e4a) fun t4 H4b s4 n4 => ?_⟩
        obtain ⟨xs4, l4, q4, W5⟩ := W4.more e4a T4a s4 n4
        refine ⟨M, xs4, .ref t4, rfl, rfl, q4, by rw [l4]; show 4 < sizeLine; decide, ?_⟩
        refine next_of ?_
        dsimp only
        clear q4
        generalize upd (upd H4b t4 _) M _ = N5 at W5 ⊢
        obtain ⟨as5, la5, m5, _⟩ := id W5.ex

        have ho5 := ho.xt W5.ext
        have hb5 := hbt.xt W5.ext
        refine ⟨_, rfl, _, rfl, x, dt, rfl, (ho5.1 _ (LamX.ExtN.refl _)).2, ho5.2.fine, ho5.2.depth, ho5.2.wt, (by show 2 ≤ sizeLine; decide), fun z nz => ⟨(by show 1 ≤ sizeLine; decide), fun y ny => ⟨y, 5, [.ref z], rfl, rfl, upd_same, by decide, by decide, (by show 5 ≤ sizeLine; decide), fun p np => ?_⟩⟩⟩
        have sz : Same N5 (upd N5 z (.lst [.str "word", .str dt.shown])) := Same.new nz
        have sy : Same (upd N5 z (.lst [.str "word", .str dt.shown])) (upd (upd N5 z (.lst [.str "word", .str dt.shown])) y (.lst [.ref z])) := Same.new ny
        have sp : Same (upd (upd N5 z (.lst [.str "word", .str dt.shown])) y (.lst [.ref z])) (upd (upd (upd N5 z (.lst [.str "word", .str dt.shown])) y (.lst [.ref z])) p (.lst [.ref z, .ref z, .ref z, .ref z, .ref z])) := Same.new np
        have fz : (upd (upd (upd N5 z (.lst [.str "word", .str dt.shown])) y (.lst [.ref z])) p (.lst [.ref z, .ref z, .ref z, .ref z, .ref z])) z = some (.lst [.str "word", .str dt.shown]) := (sy.trans sp) _ _ upd_same
        have fp : (upd (upd (upd N5 z (.lst [.str "word", .str dt.shown])) y (.lst [.ref z])) p (.lst [.ref z, .ref z, .ref z, .ref z, .ref z])) p = some (.lst [.ref z, .ref z, .ref z, .ref z, .ref z]) := upd_same
        have sN := (sz.trans sy).trans sp
        have dpM : Dp K (upd (upd (upd N5 z (.lst [.str "word", .str dt.shown])) y (.lst [.ref z])) p (.lst [.ref z, .ref z, .ref z, .ref z, .ref z])) (.ref M) (toldD 5 dt.shown) := by
          obtain ⟨as, hl, hM, ha⟩ := W5.ex
          have e5 : as.length = 5 := hl
          rw [toldD, ← e5]
          exact .lst (SqL.of (sN _ _ hM)) (dp_tolds fun a m => sN _ _ (ha a m))
        have dpP : Dp K (upd (upd (upd N5 z (.lst [.str "word", .str dt.shown])) y (.lst [.ref z])) p (.lst [.ref z, .ref z, .ref z, .ref z, .ref z])) (.ref p) (toldD 5 dt.shown) := .lst (SqL.of fp) (dp_tolds (as := [z, z, z, z, z]) fun a m => by
          have q : a = z := by simpa using m
          rw [q]
          exact fz)
        have st := told_shaped (shown_ok ho5.2.fine)
        refine ⟨toldD 5 dt.shown, toldD 5 dt.shown, dpM, dpP, st, st, _, rfl, ?_⟩
        rw [told_eqv]
        refine iteF ?_
        have hbN := hb5.same sN
        obtain ⟨dx', _, _, _, _, hbi', _⟩ := id hbN
        refine ⟨_, rfl, b, dx', _, rfl, hbi', rfl, _, rfl, b, x, rs, _, rfl, hbN, ((ho5.xt (LamX.ExtN.of sN)).1 _ (LamX.ExtN.refl _)).1, fun Hx sx => ⟨false, rfl, rfl, false, key _ _ rfl, iteF ?_⟩⟩
        refine ⟨_, _, rfl, (e.trans W5.ext).trans (LamX.ExtN.of (sN.trans sx)), fun p hp => (W5.tabs p hp).ext (sN.trans sx)⟩
      · obtain ⟨v6, v7, rfl, e, tb⟩ := h
        clear good
        refine ⟨_, rfl, (by show 1 ≤ sizeLine; decide), fun c6 nc6 => ?_⟩
        generalize eG1 : upd H' c6 _ = G1
        have SG1 : Same H' G1 := by
          rw [← eG1]
          exact Same.new nc6
        have Fc6 : G1 c6 = some (.lst [.str lab.name]) := by
          rw [← eG1]
          exact upd_same
        clear eG1
        refine ⟨_, rfl, (by show 1 ≤ sizeLine; decide), fun c7 nc7 => ?_⟩
        generalize eG2 : upd G1 c7 _ = G2
        have SG2 : Same G1 G2 := by
          rw [← eG2]
          exact Same.new nc7
        have Fc7 : G2 c7 = some (.tup [.str lab.name]) := by
          rw [← eG2]
          exact upd_same
        clear eG2
        refine ⟨(by show 0 ≤ sizeLine; decide), fun c8 nc8 => ?_⟩
        generalize eG3 : upd G2 c8 _ = G3
        have SG3 : Same G2 G3 := by
          rw [← eG3]
          exact Same.new nc8
        have Fc8 : G3 c8 = some (.lst []) := by
          rw [← eG3]
          exact upd_same
        clear eG3
        refine fun c9 nc9 => ?_
        generalize eG4 : upd G3 c9 _ = G4
        have SG4 : Same G3 G4 := by
          rw [← eG4]
          exact Same.new nc9
        have Fc9 : G4 c9 = some (.dK []) := by
          rw [← eG4]
          exact upd_same
        clear eG4
        refine ⟨(by show 10 ≤ sizeLine; decide), fun oz noz => ?_⟩
        generalize eG5 : upd G4 oz _ = G5
        have SG5 : Same G4 G5 := by
          rw [← eG5]
          exact Same.new noz
        have Foz : G5 oz = some (.lst [V.non, .bl true, .int 0, .str "", .str "nokind", .str "K", .ref c6, .ref c7, .ref c8, .ref c9]) := by
          rw [← eG5]
          exact upd_same
        clear eG5
        have ZG5 : Same G5 G5 := Same.refl _
        have ZG4 : Same G4 G5 := SG5.trans ZG5
        have ZG3 : Same G3 G5 := SG4.trans ZG4
        have ZG2 : Same G2 G5 := SG3.trans ZG3
        have ZG1 : Same G1 G5 := SG2.trans ZG2
        have ZG0 : Same H' G5 := SG1.trans ZG1
        replace Fc6 := ZG1 _ _ Fc6
        replace Fc7 := ZG2 _ _ Fc7
        replace Fc8 := ZG3 _ _ Fc8
        replace Fc9 := ZG4 _ _ Fc9
        replace Foz := ZG5 _ _ Foz
        have nin : ∀ z : Str, ¬ NameOk z → inBook rs (.str z) = false := fun z hz => decide_eq_false fun hm => by
          obtain ⟨u, hu, e⟩ := List.mem_map.mp hm
          exact hz (e ▸ ok u hu)
        have good2 : ∀ x ∈ [V.non, .bl true, .int 0, .str "", .str "nokind", .str "K", .ref c6, .ref c7, .ref c8, .ref c9], ∃ dt, BadName K G5 rs x dt := fun x hx => by
          simp only [List.mem_cons, List.mem_nil_iff, or_false] at hx
          rcases hx with rfl | rfl | rfl | rfl | rfl | rfl | rfl | rfl | rfl | rfl
          · exact ⟨_, bad_non⟩
          · exact ⟨_, bad_bl true⟩
          · exact ⟨_, bad_zero⟩
          · exact ⟨_, bad_str (small_text (by decide +kernel) (by decide +kernel)) (nin "" (by decide +kernel))⟩
          · exact ⟨_, bad_str (small_text (by decide +kernel) (by decide +kernel)) noK⟩
          · exact ⟨_, bad_str (small_text (by decide +kernel) (by decide +kernel)) (nin "K" (by decide +kernel))⟩
          · exact ⟨_, bad_l1 nlab Fc6⟩
          · exact ⟨_, bad_t1 nlab Fc7⟩
          · exact ⟨_, bad_nil Fc8⟩
          · exact ⟨_, bad_dic Fc9⟩
        have eG : LamX.ExtN J20 G5 := e.trans (LamX.ExtN.of ZG0)
        have tG : LamX.Tabs T G5 := fun p hp => (tb p hp).ext ZG0
        have hbG := hbL.xt eG
        refine ⟨oz, rfl, ⟨_, SqL.of Foz⟩, for_list (K := K) (a := oz) (xs := [V.non, .bl true, .int 0, .str "", .str "nokind", .str "K", .ref c6, .ref c7, .ref c8, .ref c9]) (fun i σ H2' => ∃ v6 : Option V, σ = [some (.ref b), some (.ref d), some (.ref q), some (.str lab.name), some (.str one.name), some (.ref oo), v6, v7] ∧ LamX.ExtN G5 H2' ∧ LamX.Tabs T H2') ⟨v6, rfl, LamX.ExtN.refl _, tG⟩ (fun i σ H2' _ h => ?_) (fun i x σ H2' hx h => ?_) (fun σ H2' h => ?_)⟩
        · obtain ⟨_, _, e2, _⟩ := h
          exact SqL.of (xlst Foz e2)
        · obtain ⟨v6, rfl, e2, tb2⟩ := h
          obtain ⟨dt, ho0⟩ := good2 x (List.mem_of_getElem? hx)
          have ho := ho0.xt e2
          have hbt := hbG.xt e2
          refine ⟨tb2, fun Ha ea Ta => heard_kind rfl rfl (hbt.xt ea) (ho.xt ea) fun t Hb sb nt => ?_⟩
          have st1 : Same Hb (upd Hb t (.lst [.str "kind", .str dt.shown])) := Same.new nt
          have e3 := (ea.trans (LamX.ExtN.of (sb.trans st1)))
          have ho3 := ho.xt e3
          refine ⟨_, rfl, x, dt, rfl, (ho3.1 _ (LamX.ExtN.refl _)).2, ho3.2.2.fine, ho3.2.2.depth, ho3.2.2.wt, (by show 2 ≤ sizeLine; decide), fun z nz => ?_⟩
          have sz : Same (upd Hb t (.lst [.str "kind", .str dt.shown])) (upd (upd Hb t (.lst [.str "kind", .str dt.shown])) z (.lst [.str "kind", .str dt.shown])) := Same.new nz
          have st := kind_shaped (shown_ok ho3.2.2.fine)
          refine ⟨.list [.str "kind", .str dt.shown], .list [.str "kind", .str dt.shown], .lst (SqL.of (sz _ _ upd_same)) (.cons (.str _) (.cons (.str _) .nil)), .lst (SqL.of upd_same) (.cons (.str _) (.cons (.str _) .nil)), st, st, _, rfl, ?_⟩
          rw [kind_eqv]
          exact iteF ⟨_, rfl, (e2.trans e3).trans (LamX.ExtN.of sz), fun p hp => (Ta p hp).ext ((sb.trans st1).trans sz)⟩
        · obtain ⟨v6, rfl, e2, tb2⟩ := h
          have hb2 := hbG.xt e2
          obtain ⟨dx2, _, _, _, _, hbi2, _⟩ := id hb2
          refine ⟨_, rfl, b, dx2, _, rfl, hbi2, rfl, _, rfl, (by show 1 ≤ sizeLine; decide), fun r0 m0 => ⟨r0, 240, _, rfl, rfl, SqT.of upd_same, (fun z => by cases z), by decide, by decide, (by show 1 ≤ 1000; decide), fun r1 m1 => ?_⟩⟩
          have sr0 : Same H2' (upd H2' r0 (.tup [.str lab.name])) := Same.new m0
          have sr1 : Same (upd H2' r0 (.tup [.str lab.name])) (upd (upd H2' r0 (.tup [.str lab.name])) r1 (.tup (List.replicate 240 [V.str lab.name]).flatten)) := Same.new m1
          have sr := sr0.trans sr1
          refine ⟨b, r1, rs, _, List.replicate 240 lab, rfl, hb2.same sr, ?_, ⟨by rw [List.length_replicate]; exact Nat.le_refl _, fun u hu => by rw [(List.mem_replicate.mp hu).2]; exact ml⟩, fun Hw sw => ⟨_, rfl, iteT ?_⟩⟩
          · rw [← rep_word]
            exact upd_same
          have sw2 := sr.trans sw
          refine ⟨_, rfl, b, dx2, _, rfl, sw2 _ _ hbi2, rfl, (by show 0 ≤ sizeLine; decide), fun e0 ke => ⟨b, e0, rs, _, [], rfl, (hb2.same sw2).same (Same.new ke), upd_same, ⟨by decide, fun _ h => nomatch h⟩, fun Hf sf => ?_⟩⟩
          have sz := sw2.trans ((Same.new ke).trans sf)
          exact k _ (((LamX.ExtN.of s0L).trans eG).trans (e2.trans (LamX.ExtN.of sz))) (fun p hp => (tb2 p hp).ext sz)


end
end N

set_option maxHeartbeats 4000000
namespace L2
open PySem PySem.Spec PyProof.Rows
theorem if_pick {b : Bool} {σ : St} {i : Nat} {H : Hp} {Q : VK} {s : V} (hs : σ[i]? = some (some s)) (h : Q (if b = true then .non else s) H) : if b = true then tC .non σ H Q else tVar i σ H Q := by
  cases b with
  | true => exact h
  | false => exact ⟨s, hs, h⟩
end L2
namespace N
open PySem L2
/-! ### rows with another back or mirror -/
def flipO (o : Option Str) (n : Str) : Option Str := if o = some n then none else some n
def Own (o : Option Str) (n : Str) : Prop := o = none ∨ o = some n
def bendB (u : Row) : Row := { u with back := flipO u.back u.name }
def bendM (u : Row) : Row := { u with mirror := flipO u.mirror u.name }
def Bent (rs : List Row) (v : Row) : Prop := ∃ u ∈ rs, Own u.back u.name ∧ Own u.mirror u.name ∧ (v = bendB u ∨ v = bendM u)
theorem ov_flip (o : Option Str) (n : Str) : (if decide (ov o = V.str n) = true then V.non else V.str n) = ov (flipO o n) := by
  unfold flipO
  cases o with
  | none => simp [ov]
  | some z =>
    by_cases h : z = n
    · subst h
      simp [ov]
    · have h1 : ¬ (ov (some z) = V.str n) := fun e => h (by cases e; rfl)
      have h2 : ¬ (some z = some n) := fun e => h (Option.some.inj e)
      rw [if_neg h2, decide_eq_false h1]
      rfl
theorem own_of {o : Option Str} {n : Str} (h : inV (ov o) [.non, .str n] = true) : Own o n := by
  cases o with
  | none => exact .inl rfl
  | some z =>
    refine .inr ?_
    have e : n = z := by simpa [inV, ov, eqV] using h
    rw [e]
structure Found (H1 H' : Hp) (F : Addr) (rs : List Row) (n : Nat) : Prop where
  but : But F H1 H'
  ex : ∃ (ps : List Addr) (us : List Row), H' F = some (.lst (ps.map V.ref)) ∧ Paired (PairAt H') ps us ∧ us.length ≤ n ∧ ∀ v ∈ us, Bent rs v
theorem Found.more {H1 H' L : Hp} {F p r : Addr} {rs : List Row} {n : Nat} {v : Row} (h : Found H1 H' F rs n) (s : Same H' L) (hp : L p = some (.tup [.str v.name, .ref r])) (hr : RowAt L r v) (hv : Bent rs v) :
    ∃ xs : List V, L F = some (.lst xs) ∧ xs.length ≤ n ∧ Found H1 (upd L F (.lst (xs ++ [.ref p]))) F rs (n + 1) := by
  obtain ⟨ps, us, hF, hk, hl, hb⟩ := h.ex
  have hFL := s _ _ hF
  have up : ∀ {a : Addr} {xs : List V}, L a = some (.tup xs) → (upd L F (.lst (ps.map V.ref ++ [.ref p]))) a = some (.tup xs) := fun {a xs} z => (upd_ne fun e => by rw [e, hFL] at z; cases z).trans z
  refine ⟨ps.map V.ref, hFL, by rw [List.length_map, paired_len hk]; exact hl, (h.but.trans (But.of s)).trans But.upd, ps ++ [p], us ++ [v], ?_, paired_app (paired_imp (fun _ _ ⟨a, e, z⟩ => ⟨a, up (s _ _ e), up (s _ _ z)⟩) hk) (.cons ⟨r, up hp, up hr⟩ .nil), by rw [List.length_append]; exact Nat.succ_le_succ hl, fun z hz => ?_⟩
  · rw [upd_same, List.map_append]
    rfl
  · rcases List.mem_append.mp hz with hz | hz
    · exact hb z hz
    · rw [List.mem_singleton.mp hz]
      exact hv
def spBent (K : PySem.W.Frag) : Sp := fun vs H Q _ => ∃ (d : Addr) (rs : List Row), vs = [.ref d] ∧ ShopAt H d rs ∧ (rs.map (·.name)).Nodup ∧ rs.length ≤ 24 ∧
  ∀ q H' ps us, H q = none → H' q = some (.lst (ps.map V.ref)) → Paired (PairAt H') ps us → us.length ≤ 48 → (∀ v ∈ us, Bent rs v) → Same H H' → Q (.ref q) H'
section
variable {P : Program} {w : World} {K : PySem.W.Frag} {mg : Str → Option Value} {base : Heap}
abbrev s__law_bent : Stmt := top 53
theorem sc__law_bent : FnScope ["_law_model", "_law_found", "_law_label", "_law_row_here"] ["_law_model"] (defScope s__law_bent) := ⟨rfl, rfl, rfl, by decide +kernel, rfl, by decide +kernel, by decide +kernel⟩
theorem h_law_bent (B : Blts mg) (F : FunAt K mg "_law_bent" "_law_bent" s__law_bent) : Has P w K mg base "_law_bent" 1 ["_law_model"] (spBent K) := by
  refine has_of F sc__law_bent (fun _ _ _ _ _ _ us hl => match us, hl with | [_], _ => rfl) (fun vs H Q E h => ?_) (fun f cdv A outer s H vs Q E hr h => ?_)
  · obtain ⟨_, _, rfl, _⟩ := h
    rfl
  · obtain ⟨d, rs, rfl, hs, nd, l24, k⟩ := h
    refine ⟨_, (pss_cons (ps_set (i := 1) sc__law_bent.nd rfl (Or.inl rfl) (pe_lst pa_nil))
      (pss_cons (ps_for PassesOwn.never rfl (pi_list (pe_callB (call_sortedD rfl) (by rfl) B.n_sorted (by decide +kernel) (pa_cons (pv 0) pa_nil))) (pg_name (i := 2) sc__law_bent.nd rfl (Or.inl rfl))
        (pss_cons (ps_set (i := 3) sc__law_bent.nd rfl (Or.inl rfl) (pe_dget hr.u1 (pv 0) (pv 2) (fun _ _ => rfl)))
        (pss_one (ps_if (PW.pt (pw_and (pt_cmpR op_in_seq (pe_ix ix_tup (pv 3) pe_int (fun _ _ => rfl)) (pe_tup (pa_cons pe_non (pa_cons (pv 2) pa_nil))) (by first | exact nomark _ | rfl)) (pw_and1 (pt_cmpR op_in_seq (pe_ix ix_tup (pv 3) pe_int (fun _ _ => rfl)) (pe_tup (pa_cons pe_non (pa_cons (pv 2) pa_nil))) (by first | exact nomark _ | rfl))))) (pss_cons (ps_expr (pe_bm PySem.F.plainAttrs_list PySem.F.slot_list_append PySem.F.type_list_append mt_append (pv 1) (pa_cons (pe_tup (pa_cons (pv 2) (pa_cons (pe_op op_catT (pe_op op_catT (pe_slice sl_tup (pv 3) po_none (po_some pe_int)) (pe_tup (pa_cons (pe_ifExp (pt_cmpR op_eq (pe_ix ix_tup (pv 3) pe_int (fun _ _ => rfl)) (pv 2) (by first | exact nomark _ | rfl)) pe_non (pv 2)) pa_nil))) (pe_slice sl_tup (pv 3) (po_some pe_int) po_none)) pa_nil))) pa_nil)))
          (pss_one (ps_expr (pe_bm PySem.F.plainAttrs_list PySem.F.slot_list_append PySem.F.type_list_append mt_append (pv 1) (pa_cons (pe_tup (pa_cons (pv 2) (pa_cons (pe_op op_catT (pe_op op_catT (pe_slice sl_tup (pv 3) po_none (po_some pe_int)) (pe_tup (pa_cons (pe_ifExp (pt_cmpR op_eq (pe_ix ix_tup (pv 3) pe_int (fun _ _ => rfl)) (pv 2) (by first | exact nomark _ | rfl)) pe_non (pv 2)) pa_nil))) (pe_slice sl_tup (pv 3) (po_some pe_int) po_none)) pa_nil))) pa_nil)))))
          pss_nil))))
      (pss_one (ps_ret (pv 1))))), ?_⟩
    obtain ⟨kvs, hd, hk⟩ := id hs
    have lq : (rowsSorted rs).length = rs.length := by have := (rowsSorted_names rs).1.length_eq; simpa using this
    have msort : ∀ u, u ∈ rowsSorted rs ↔ u ∈ rs := fun u => (List.mergeSort_perm _ _).mem_iff
    have wl : ((rowsSorted rs).map fun u => V.str u.name).length = (rowsSorted rs).length := List.length_map _
    have l10 : (rs.map (·.name)).length < 64 := by rw [List.length_map]; omega
    refine ⟨(by show 0 ≤ sizeLine; decide), fun F nF => ?_⟩
    have s0 : Same H (upd H F (.lst [])) := Same.new nF
    have f0 : (upd H F (.lst [])) F = some (.lst []) := upd_same
    generalize upd H F (.lst []) = H0 at s0 f0 ⊢
    refine next_of ?_
    dsimp only
    refine ⟨_, rfl, d, kvs, rs.map (·.name), rfl, .inl (s0 _ _ hd), ShopAt.keys hk, l10, fun names nl pm so nn => ?_⟩
    obtain rfl := sorted_are pm so
    have s1 : Same H0 (upd H0 nl (.lst (((rowsSorted rs).map (·.name)).map V.str))) := Same.new nn
    have nF1 : nl ≠ F := (ne_of_none f0 nn).symm
    generalize hH1 : upd H0 nl (.lst (((rowsSorted rs).map (·.name)).map V.str)) = H1 at s1 ⊢
    have hn1 : H1 nl = some (.lst ((rowsSorted rs).map fun u => .str u.name)) := by rw [← hH1, upd_same, List.map_map]; rfl
    clear hH1
    have dF : d ≠ F := ne_of_none hd nF
    have start : Found H1 H1 F rs 0 := ⟨fun _ _ h _ => h, [], [], s1 _ _ f0, .nil, Nat.le_refl _, fun _ h => nomatch h⟩
    have s01 := s0.trans s1
    refine ⟨nl, rfl, ⟨_, SqL.of hn1⟩, for_list (K := K) (a := nl) (xs := (rowsSorted rs).map fun u => V.str u.name) (fun i σ H' => ∃ v2 v3 : Option V, σ = [some (.ref d), some (.ref F), v2, v3] ∧ Found H1 H' F rs (2 * i)) ⟨none, none, rfl, start⟩ (fun i σ H' _ h => ?_) (fun i x σ H' hx h => ?_) (fun σ H' h => ?_)⟩
    · obtain ⟨_, _, _, e⟩ := h
      exact SqL.of (e.but _ _ hn1 nF1)
    · obtain ⟨v2, v3, rfl, e⟩ := h
      have li := (List.getElem?_eq_some_iff.mp hx).1
      rw [wl] at li
      rw [List.getElem?_map] at hx
      cases hu : (rowsSorted rs)[i]? with
      | none => rw [hu] at hx; cases hx
      | some u =>
        rw [hu] at hx
        cases (Option.some.inj hx : V.str u.name = x)
        have mu := (msort u).mp (List.mem_of_getElem? hu)
        obtain ⟨a, g, ra⟩ := shop_get hk nd u mu
        have aF : a ≠ F := ne_of_none (show H a = some (.tup _) from ra) nF
        have ra' : RowAt H' a u := e.but _ _ (s01 _ _ ra) aF
        have hd' := e.but _ _ (s01 _ _ hd) dF
        have fl : ∀ o : Option Str, flatV (ov o) = true := fun o => by cases o <;> rfl
        have sc : ∀ (o : Option Str) (z : Str), scal (ov o) (.str z) = true := fun o z => by cases o <;> rfl
        refine ⟨_, rfl, _, rfl, d, .ref a, rfl, .inl ⟨kvs, .inr u.name, .inl hd', rfl, g.symm⟩, ?_⟩
        refine next_of ?_
        dsimp only
        have out : ∀ {H2 : Hp}, Same H' H2 → Found H1 H2 F rs (2 * (i + 1)) := fun {H2} s2 => by
          obtain ⟨ps, us, h1, h2, h3, h4⟩ := e.ex
          exact ⟨e.but.trans (But.of s2), ps, us, s2 _ _ h1, paired_imp (fun _ _ ⟨a, x, z⟩ => ⟨a, s2 _ _ x, s2 _ _ z⟩) h2, by omega, h4⟩
        refine ⟨_, rfl, a, _, 2, _, rfl, rfl, SqT.of ra', rfl, _, rfl, (by show 2 ≤ sizeLine; decide), fun t1 n1 => ⟨t1, _, rfl, .inr (SqT.of upd_same), fl _, rfl, _, rfl, ite2 (fun c1 => ?_) (fun c1 => ⟨_, _, rfl, out (Same.new n1)⟩)⟩⟩
        have Sb1 : Same H' (upd H' t1 (.tup [.non, .str u.name])) := Same.new n1
        generalize upd H' t1 (.tup [.non, .str u.name]) = B1 at Sb1 ⊢
        refine ⟨_, rfl, a, _, 3, _, rfl, rfl, SqT.of (Sb1 _ _ ra'), rfl, _, rfl, (by show 2 ≤ sizeLine; decide), fun t2 n2 => ⟨t2, _, rfl, .inr (SqT.of upd_same), fl _, rfl, _, rfl, ite2 (fun c2 => ?_) (fun c2 => ⟨_, _, rfl, out (Sb1.trans (Same.new n2))⟩)⟩⟩
        have Sb2 : Same B1 (upd B1 t2 (.tup [.non, .str u.name])) := Same.new n2
        generalize upd B1 t2 (.tup [.non, .str u.name]) = B2 at Sb2 ⊢
        have own1 : Own u.back u.name := own_of c1
        have own2 : Own u.mirror u.name := own_of c2
        have raB : RowAt B2 a u := Sb2 _ _ (Sb1 _ _ ra')
        obtain ⟨ps0, us0, fF0, _⟩ := id e.ex
        have FB := Sb2 _ _ (Sb1 _ _ fF0)
        have e0 : Found H1 B2 F rs (2 * i) := by
          obtain ⟨ps, us, h1, h2, h3, h4⟩ := e.ex
          have sB := Sb1.trans Sb2
          exact ⟨e.but.trans (But.of sB), ps, us, sB _ _ h1, paired_imp (fun _ _ ⟨a, x, z⟩ => ⟨a, sB _ _ x, sB _ _ z⟩) h2, h3, h4⟩
        refine ⟨_, rfl, .inl ⟨rfl, _, SqL.of FB⟩, _, rfl, _, rfl, _, rfl, a, _, rfl, SqT.of raB, (fun z => absurd (show HT.sIx 5 5 (some 2) = 5 from z.2) (by decide)), fun qP1 nqP1 => ?_⟩
        generalize eP1 : upd B2 qP1 _ = P1
        have SP1 : Same B2 P1 := by
          rw [← eP1]
          exact Same.new nqP1
        have FqP1 : P1 qP1 = some (.tup [V.int u.takes, .int u.makes]) := by
          rw [← eP1]
          exact upd_same
        clear eP1
        refine ⟨_, rfl, a, _, 2, _, rfl, rfl, SqT.of ((SP1) _ _ raB), rfl, _, rfl, sc _ _, _, rfl, ?_⟩
        refine if_pick rfl ?_
        rw [ov_flip]
        refine ⟨(by show 1 ≤ sizeLine; decide), fun qP2 nqP2 => ?_⟩
        generalize eP2 : upd P1 qP2 _ = P2
        have SP2 : Same P1 P2 := by
          rw [← eP2]
          exact Same.new nqP2
        have FqP2 : P2 qP2 = some (.tup [ov (flipO u.back u.name)]) := by
          rw [← eP2]
          exact upd_same
        clear eP2
        refine ⟨qP1, qP2, _, _, rfl, rfl, SqT.of ((SP2) _ _ FqP1), SqT.of FqP2, (fun z => by cases z), (by show 3 ≤ sizeLine; decide), (fun z => by cases z), fun _ => fun qP3 nqP3 => ?_⟩
        generalize eP3 : upd P2 qP3 _ = P3
        have SP3 : Same P2 P3 := by
          rw [← eP3]
          exact Same.new nqP3
        have FqP3 : P3 qP3 = some (.tup ([V.int u.takes, .int u.makes] ++ [ov (flipO u.back u.name)])) := by
          rw [← eP3]
          exact upd_same
        clear eP3
        refine ⟨_, rfl, _, rfl, a, _, rfl, SqT.of ((((SP1).trans SP2).trans SP3) _ _ raB), (fun z => absurd (show HT.sIx 5 0 (some 3) = 0 from z.1) (by decide)), fun qP4 nqP4 => ?_⟩
        generalize eP4 : upd P3 qP4 _ = P4
        have SP4 : Same P3 P4 := by
          rw [← eP4]
          exact Same.new nqP4
        have FqP4 : P4 qP4 = some (.tup [ov u.mirror, .int u.yarn]) := by
          rw [← eP4]
          exact upd_same
        clear eP4
        refine ⟨qP3, qP4, _, _, rfl, rfl, SqT.of ((SP4) _ _ FqP3), SqT.of FqP4, (fun z => by cases z), (by show 5 ≤ sizeLine; decide), (fun z => by cases z), fun _ => fun qP5 nqP5 => ?_⟩
        generalize eP5 : upd P4 qP5 _ = P5
        have SP5 : Same P4 P5 := by
          rw [← eP5]
          exact Same.new nqP5
        have FqP5 : P5 qP5 = some (.tup (([V.int u.takes, .int u.makes] ++ [ov (flipO u.back u.name)]) ++ [ov u.mirror, .int u.yarn])) := by
          rw [← eP5]
          exact upd_same
        clear eP5
        refine ⟨(by show 2 ≤ sizeLine; decide), fun qP6 nqP6 => ?_⟩
        generalize eP6 : upd P5 qP6 _ = P6
        have SP6 : Same P5 P6 := by
          rw [← eP6]
          exact Same.new nqP6
        have FqP6 : P6 qP6 = some (.tup [.str u.name, .ref qP5]) := by
          rw [← eP6]
          exact upd_same
        clear eP6
        obtain ⟨xsP, fP, lP, EP⟩ := Found.more (v := bendB u) e0 ((((((SP1).trans SP2).trans SP3).trans SP4).trans SP5).trans SP6) FqP6 ((SP6) _ _ FqP5) ⟨u, mu, own1, own2, .inl rfl⟩
        refine ⟨F, xsP, .ref qP6, rfl, rfl, fP, Nat.lt_of_le_of_lt lP (Nat.lt_of_lt_of_le (by omega : _ < 100) (by show 100 ≤ sizeLine; decide)), ?_⟩
        refine next_of ?_
        dsimp only
        clear fP
        generalize upd P6 F _ = C0 at EP ⊢
        obtain ⟨ps1, us1, fF1, _⟩ := id EP.ex
        have raC : RowAt C0 a u := EP.but _ _ (s01 _ _ ra) aF
        refine ⟨_, rfl, .inl ⟨rfl, _, SqL.of fF1⟩, _, rfl, _, rfl, _, rfl, a, _, rfl, SqT.of raC, (fun z => absurd (show HT.sIx 5 5 (some 3) = 5 from z.2) (by decide)), fun qR1 nqR1 => ?_⟩
        generalize eR1 : upd C0 qR1 _ = R1
        have SR1 : Same C0 R1 := by
          rw [← eR1]
          exact Same.new nqR1
        have FqR1 : R1 qR1 = some (.tup [V.int u.takes, .int u.makes, ov u.back]) := by
          rw [← eR1]
          exact upd_same
        clear eR1
        refine ⟨_, rfl, a, _, 3, _, rfl, rfl, SqT.of ((SR1) _ _ raC), rfl, _, rfl, sc _ _, _, rfl, ?_⟩
        refine if_pick rfl ?_
        rw [ov_flip]
        refine ⟨(by show 1 ≤ sizeLine; decide), fun qR2 nqR2 => ?_⟩
        generalize eR2 : upd R1 qR2 _ = R2
        have SR2 : Same R1 R2 := by
          rw [← eR2]
          exact Same.new nqR2
        have FqR2 : R2 qR2 = some (.tup [ov (flipO u.mirror u.name)]) := by
          rw [← eR2]
          exact upd_same
        clear eR2
        refine ⟨qR1, qR2, _, _, rfl, rfl, SqT.of ((SR2) _ _ FqR1), SqT.of FqR2, (fun z => by cases z), (by show 4 ≤ sizeLine; decide), (fun z => by cases z), fun _ => fun qR3 nqR3 => ?_⟩
        generalize eR3 : upd R2 qR3 _ = R3
        have SR3 : Same R2 R3 := by
          rw [← eR3]
          exact Same.new nqR3
        have FqR3 : R3 qR3 = some (.tup ([V.int u.takes, .int u.makes, ov u.back] ++ [ov (flipO u.mirror u.name)])) := by
          rw [← eR3]
          exact upd_same
        clear eR3
        refine ⟨_, rfl, _, rfl, a, _, rfl, SqT.of ((((SR1).trans SR2).trans SR3) _ _ raC), (fun z => absurd (show HT.sIx 5 0 (some 4) = 0 from z.1) (by decide)), fun qR4 nqR4 => ?_⟩
        generalize eR4 : upd R3 qR4 _ = R4
        have SR4 : Same R3 R4 := by
          rw [← eR4]
          exact Same.new nqR4
        have FqR4 : R4 qR4 = some (.tup [.int u.yarn]) := by
          rw [← eR4]
          exact upd_same
        clear eR4
        refine ⟨qR3, qR4, _, _, rfl, rfl, SqT.of ((SR4) _ _ FqR3), SqT.of FqR4, (fun z => by cases z), (by show 5 ≤ sizeLine; decide), (fun z => by cases z), fun _ => fun qR5 nqR5 => ?_⟩
        generalize eR5 : upd R4 qR5 _ = R5
        have SR5 : Same R4 R5 := by
          rw [← eR5]
          exact Same.new nqR5
        have FqR5 : R5 qR5 = some (.tup (([V.int u.takes, .int u.makes, ov u.back] ++ [ov (flipO u.mirror u.name)]) ++ [.int u.yarn])) := by
          rw [← eR5]
          exact upd_same
        clear eR5
        refine ⟨(by show 2 ≤ sizeLine; decide), fun qR6 nqR6 => ?_⟩
        generalize eR6 : upd R5 qR6 _ = R6
        have SR6 : Same R5 R6 := by
          rw [← eR6]
          exact Same.new nqR6
        have FqR6 : R6 qR6 = some (.tup [.str u.name, .ref qR5]) := by
          rw [← eR6]
          exact upd_same
        clear eR6
        obtain ⟨xsR, fR, lR, ER⟩ := Found.more (v := bendM u) EP ((((((SR1).trans SR2).trans SR3).trans SR4).trans SR5).trans SR6) FqR6 ((SR6) _ _ FqR5) ⟨u, mu, own1, own2, .inr rfl⟩
        refine ⟨F, xsR, .ref qR6, rfl, rfl, fR, Nat.lt_of_le_of_lt lR (Nat.lt_of_lt_of_le (by omega : _ < 100) (by show 100 ≤ sizeLine; decide)), ?_⟩
        exact ⟨_, _, rfl, ER⟩
    · obtain ⟨v2, v3, rfl, e⟩ := h
      obtain ⟨ps, us, h1, h2, h3, h4⟩ := e.ex
      rw [wl] at h3
      exact ⟨_, rfl, k F H' ps us nF h1 h2 (by omega) h4 fun b o hb => e.but _ _ (s01 _ _ hb) (ne_of_none hb nF)⟩
end
end N

set_option maxHeartbeats 4000000
namespace N
open PySem L2
theorem KindAt.ext {C : Addr} {H H' : Hp} {a : Addr} {r : Row} (h : KindAt C H a r) (e : LamX.ExtN H H') : KindAt C H' a r := let ⟨dx, h⟩ := h; ⟨dx, e _ _ h fun ps z => by cases z⟩
theorem BookAt.ext {CB C : Addr} {H H' : Hp} {a : Addr} {rs qs : List Row} (h : BookAt CB C H a rs qs) (e : LamX.ExtN H H') : BookAt CB C H' a rs qs := by
  obtain ⟨dx, t, d, as, bs, h1, h2, h3, h4, h5, h6⟩ := h
  exact ⟨dx, t, d, as, bs, e _ _ h1 (fun ps z => by cases z), e _ _ h2 (fun ps z => by cases z), L2.Paired.mapP h3 fun _ _ k => k.ext e, e _ _ h4 (fun ps z => by cases z), L2.Paired.mapP h5 fun _ _ k => k.ext e, h6⟩
theorem ShopAt.ext {H H' : Hp} {d : Addr} {rs : List Row} (h : ShopAt H d rs) (e : LamX.ExtN H H') : ShopAt H' d rs := by
  obtain ⟨kvs, hd, hk⟩ := h
  exact ⟨kvs, e _ _ hd (fun ps z => by cases z), paired_imp (fun _ _ ⟨a, x, ra⟩ => ⟨a, x, e _ _ ra (fun ps z => by cases z)⟩) hk⟩
/-- all but p's object and the tables -/
def XB (p : Addr) (H H' : Hp) : Prop := ∀ b o, H b = some o → b ≠ p → (∀ ps, o ≠ .tbl ps) → H' b = some o
theorem XB.of {p : Addr} {H H' : Hp} (e : But p H H') : XB p H H' := fun b o h n _ => e b o h n
theorem XB.ext {p : Addr} {H H' : Hp} (e : LamX.ExtN H H') : XB p H H' := fun b o h _ n => e b o h n
theorem XB.trans {p : Addr} {H H1 H2 : Hp} (a : XB p H H1) (b : XB p H1 H2) : XB p H H2 := fun c o h n t => b c o (a c o h n t) n t
theorem XB.refl {p : Addr} {H : Hp} : XB p H H := fun _ _ h _ _ => h
theorem lst_tbl {xs : List V} (ps : Array Value) : HO.lst xs ≠ .tbl ps := fun z => by cases z
theorem tabs_but {T : List (Addr × Str)} {p : Addr} {H H' : Hp} (hp : Pot H p) (t : LamX.Tabs T H) (e : But p H H') : LamX.Tabs T H' := fun q hq => by
  obtain ⟨x, y, ep, _⟩ := hp
  obtain ⟨ps, h1, h2, h3⟩ := t q hq
  refine ⟨ps, e _ _ h1 (fun z => by rw [z, ep] at h1; cases h1), h2, fun pos cv hc => ?_⟩
  obtain ⟨c, e1, e2⟩ := h3 pos cv hc
  refine ⟨c, e1, e _ _ e2 fun z => ?_⟩
  rw [z, ep] at e2
  have z2 := Option.some.inj e2
  unfold LamX.CodeO at z2
  cases z2
theorem Pot.xb {p : Addr} {H H' : Hp} (hp : Pot H p) (e : LamX.ExtN H H') : Pot H' p := let ⟨a, b, q, r⟩ := hp; ⟨a, b, e _ _ q lst_tbl, r⟩

theorem Pot.off {H : Hp} {p a : Addr} {o : HO} (hp : Pot H p) (h : H a = some o) (n : ∀ xs, o ≠ .lst xs) : a ≠ p := fun z => by
  obtain ⟨x, y, e, _⟩ := hp
  rw [z, e] at h
  exact n _ (Option.some.inj h).symm
theorem KindAt.xb {C : Addr} {H H' : Hp} {p a : Addr} {r : Row} (hp : Pot H p) (h : KindAt C H a r) (e : XB p H H') : KindAt C H' a r := let ⟨dx, h⟩ := h; ⟨dx, e _ _ h (hp.off h fun _ z => by cases z) fun _ z => by cases z⟩
theorem BookAt.xb {CB C : Addr} {H H' : Hp} {p a : Addr} {rs qs : List Row} (hp : Pot H p) (h : BookAt CB C H a rs qs) (e : XB p H H') : BookAt CB C H' a rs qs := by
  obtain ⟨dx, t, d, as, bs, h1, h2, h3, h4, h5, h6⟩ := h
  exact ⟨dx, t, d, as, bs, e _ _ h1 (hp.off h1 fun _ z => by cases z) (fun _ z => by cases z), e _ _ h2 (hp.off h2 fun _ z => by cases z) (fun _ z => by cases z), L2.Paired.mapP h3 fun _ _ k => k.xb hp e, e _ _ h4 (hp.off h4 fun _ z => by cases z) (fun _ z => by cases z), L2.Paired.mapP h5 fun _ _ k => k.xb hp e, h6⟩
theorem ShopAt.xb {H H' : Hp} {p d : Addr} {rs : List Row} (hp : Pot H p) (h : ShopAt H d rs) (e : XB p H H') : ShopAt H' d rs := by
  obtain ⟨kvs, hd, hk⟩ := h
  exact ⟨kvs, e _ _ hd (hp.off hd fun _ z => by cases z) (fun _ z => by cases z), paired_imp (fun _ _ ⟨a, x, ra⟩ => ⟨a, x, e _ _ ra (hp.off ra fun _ z => by cases z) (fun _ z => by cases z)⟩) hk⟩

/-! ### one row in place of another -/
def setRow (rs : List Row) (v : Row) : List Row := rs.map fun r => if r.name = v.name then v else r
theorem set_names (rs : List Row) (v : Row) : (setRow rs v).map (·.name) = rs.map (·.name) := by
  rw [setRow, List.map_map]
  refine List.map_congr_left fun r _ => ?_
  show (if r.name = v.name then v else r).name = r.name
  split
  · rename_i h
    exact h.symm
  · rfl
theorem set_mem {rs : List Row} {v r : Row} (h : r ∈ setRow rs v) : r = v ∨ r ∈ rs ∧ r.name ≠ v.name := by
  obtain ⟨u, hu, rfl⟩ := List.mem_map.mp h
  by_cases e : u.name = v.name
  · rw [if_pos e]
    exact .inl rfl
  · rw [if_neg e]
    exact .inr ⟨hu, e⟩
theorem set_has {rs : List Row} {v u : Row} (hu : u ∈ rs) (e : u.name = v.name) : v ∈ setRow rs v := List.mem_map.mpr ⟨u, hu, if_pos e⟩
theorem set_keep {rs : List Row} {v r : Row} (hr : r ∈ rs) (e : r.name ≠ v.name) : r ∈ setRow rs v := List.mem_map.mpr ⟨r, hr, if_neg e⟩
theorem one_row {rs : List Row} (nd : (rs.map (·.name)).Nodup) {u v : Row} (hu : u ∈ rs) (hv : v ∈ rs) (e : u.name = v.name) : u = v := by
  induction rs with
  | nil => cases hu
  | cons r rs ih =>
    rw [List.map_cons, List.nodup_cons] at nd
    rcases List.mem_cons.mp hu with a | a <;> rcases List.mem_cons.mp hv with b | b
    · rw [a, b]
    · exact absurd (by rw [← a, e]; exact List.mem_map_of_mem b) nd.1
    · exact absurd (by rw [← b, ← e]; exact List.mem_map_of_mem a) nd.1
    · exact ih nd.2 a b
theorem fit_same {rs : List Row} {u v : Row} (f : FitOk rs) (nd : (rs.map (·.name)).Nodup) (hu : u ∈ rs) (n : v.name = u.name) (hb : v.back = u.back) (hm : v.mirror = u.mirror) (ht : v.takes = u.takes) (hk : v.makes = u.makes) : FitOk (setRow rs v) := by
  have up : ∀ w ∈ rs, ∃ w' ∈ setRow rs v, w'.name = w.name ∧ w'.back = w.back ∧ w'.mirror = w.mirror ∧ w'.takes = w.takes ∧ w'.makes = w.makes := fun w hw => by
    by_cases e : w.name = v.name
    · have q := one_row nd hw hu (e.trans n)
      subst q
      exact ⟨v, set_has hw n.symm, n, hb, hm, ht, hk⟩
    · exact ⟨w, set_keep hw e, rfl, rfl, rfl, rfl, rfl⟩
  have dn : ∀ r ∈ setRow rs v, ∃ w ∈ rs, r.name = w.name ∧ r.back = w.back ∧ r.mirror = w.mirror ∧ r.takes = w.takes ∧ r.makes = w.makes := fun r hr => by
    rcases set_mem hr with rfl | ⟨hr, _⟩
    · exact ⟨u, hu, n, hb, hm, ht, hk⟩
    · exact ⟨r, hr, rfl, rfl, rfl, rfl, rfl⟩
  refine ⟨fun r hr x hx => ?_, fun r hr x hx => ?_, fun r hr x y hx hy => ?_⟩
  · obtain ⟨w, hw, a1, a2, a3, a4, a5⟩ := dn r hr
    obtain ⟨z, hz, b1, b2, b3, b4⟩ := f.back w hw x (a2 ▸ hx)
    obtain ⟨z', hz', c1, c2, c3, c4, c5⟩ := up z hz
    exact ⟨z', hz', c1.trans b1, by rw [c2, b2, a1], by rw [c4, b3, a4], by rw [c5, b4, a5]⟩
  · obtain ⟨w, hw, a1, a2, a3, a4, a5⟩ := dn r hr
    obtain ⟨z, hz, b1, b2, b3, b4⟩ := f.mirror w hw x (a3 ▸ hx)
    obtain ⟨z', hz', c1, c2, c3, c4, c5⟩ := up z hz
    exact ⟨z', hz', c1.trans b1, by rw [c3, b2, a1], by rw [c4, b3, a4], by rw [c5, b4, a5]⟩
  · obtain ⟨w, hw, a1, a2, a3, a4, a5⟩ := dn r hr
    obtain ⟨z, hz, t, ht', b1, b2, b3, b4⟩ := f.agree w hw x y (a2 ▸ hx) (a3 ▸ hy)
    obtain ⟨z', hz', c1, c2, c3, c4, c5⟩ := up z hz
    obtain ⟨t', ht'', d1, d2, d3, d4, d5⟩ := up t ht'
    exact ⟨z', hz', t', ht'', c1.trans b1, d1.trans b2, by rw [c3]; exact b3, by rw [c3, d2]; exact b4⟩
theorem own_get {o : Option Str} {n x : Str} (h : Own o n) (e : o = some x) : x = n := by
  rcases h with h | h
  · rw [h] at e
    cases e
  · rw [h] at e
    exact (Option.some.inj e).symm
theorem fit_own {rs : List Row} {u v : Row} (f : FitOk rs) (nd : (rs.map (·.name)).Nodup) (hu : u ∈ rs) (n : v.name = u.name) (ob : Own u.back u.name) (om : Own u.mirror u.name) (vb : Own v.back v.name) (vm : Own v.mirror v.name) : FitOk (setRow rs v) := by
  have here := set_has hu n.symm
  -- the twin of another row is not u
  have offB : ∀ r ∈ rs, r.name ≠ v.name → ∀ z ∈ rs, z.back = some r.name → z.name ≠ v.name := fun r hr e z hz hb q => by
    have w := one_row nd hz hu (q.trans n)
    subst w
    exact e ((own_get ob hb).trans n.symm)
  have offM : ∀ r ∈ rs, r.name ≠ v.name → ∀ z ∈ rs, z.mirror = some r.name → z.name ≠ v.name := fun r hr e z hz hb q => by
    have w := one_row nd hz hu (q.trans n)
    subst w
    exact e ((own_get om hb).trans n.symm)
  refine ⟨fun r hr x hx => ?_, fun r hr x hx => ?_, fun r hr x y hx hy => ?_⟩
  · rcases set_mem hr with rfl | ⟨hr, e⟩
    · have q := own_get vb hx
      exact ⟨r, here, q.symm, by rw [hx, q], rfl, rfl⟩
    · obtain ⟨z, hz, b1, b2, b3, b4⟩ := f.back r hr x hx
      exact ⟨z, set_keep hz (offB r hr e z hz b2), b1, b2, b3, b4⟩
  · rcases set_mem hr with rfl | ⟨hr, e⟩
    · have q := own_get vm hx
      exact ⟨r, here, q.symm, by rw [hx, q], rfl, rfl⟩
    · obtain ⟨z, hz, b1, b2, b3, b4⟩ := f.mirror r hr x hx
      exact ⟨z, set_keep hz (offM r hr e z hz b2), b1, b2, b3, b4⟩
  · rcases set_mem hr with rfl | ⟨hr, e⟩
    · have q1 := own_get vb hx
      have q2 := own_get vm hy
      exact ⟨r, here, r, here, q1.symm, q2.symm, by rw [hy]; simp, by rw [hx, hy, q1, q2]⟩
    · obtain ⟨z, hz, t, ht, b1, b2, b3, b4⟩ := f.agree r hr x y hx hy
      obtain ⟨z2, hz2, e1, e2, _⟩ := f.back r hr x hx
      obtain ⟨t2, ht2, d1, d2, _⟩ := f.mirror r hr y hy
      have p1 : z = z2 := one_row nd hz hz2 (b1.trans e1.symm)
      have p2 : t = t2 := one_row nd ht ht2 (b2.trans d1.symm)
      exact ⟨z, set_keep hz (offB r hr e z hz (p1 ▸ e2)), t, set_keep ht (offM r hr e t ht (p2 ▸ d2)), b1, b2, b3, b4⟩
theorem shelf_set {rs : List Row} {v : Row} (h : ShelfOk rs) (kv : KindOk v) (f : FitOk (setRow rs v)) : ShelfOk (setRow rs v) :=
  ⟨fun r hr => (set_mem hr).elim (fun e => e ▸ kv) fun z => h.kind r z.1, f, by rw [set_names]; exact h.nodup, by rw [setRow, List.length_map]; exact h.len⟩
def moreYarn (u : Row) : Row := { u with yarn := u.yarn + 1 }
theorem shelf_yarn {rs : List Row} {u : Row} (h : ShelfOk rs) (hu : u ∈ rs) (y : u.yarn ≤ 900) : ShelfOk (setRow rs (moreYarn u)) := by
  have k := h.kind u hu
  have ky := k.yarn
  refine shelf_set h ⟨k.name, k.back, k.mirror, k.takes, k.makes, k.some_, ⟨by show 0 ≤ u.yarn + 1; omega, by show u.yarn + 1 ≤ 999; omega⟩⟩ (fit_same h.part h.nodup hu rfl rfl rfl rfl rfl)
theorem flip_own (o : Option Str) (n : Str) : Own (flipO o n) n := by
  unfold flipO
  split
  · exact .inl rfl
  · exact .inr rfl
theorem flip_name {o : Option Str} {n : Str} (h : NameOk n) : ∀ x, flipO o n = some x → NameOk x := fun x e => own_get (flip_own o n) e ▸ h
theorem flip_ne {o : Option Str} {n : Str} : flipO o n ≠ o := fun e => by
  unfold flipO at e
  split at e
  · rename_i h
    rw [h] at e
    cases e
  · rename_i h
    exact h e.symm
theorem shelf_bent {rs : List Row} {v : Row} (h : ShelfOk rs) (b : Bent rs v) : ShelfOk (setRow rs v) ∧ v ∉ rs ∧ v.name ∈ rs.map (·.name) := by
  obtain ⟨u, hu, ob, om, e⟩ := b
  have k := h.kind u hu
  rcases e with rfl | rfl
  · refine ⟨shelf_set h ⟨k.name, flip_name k.name, k.mirror, k.takes, k.makes, k.some_, k.yarn⟩ (fit_own h.part h.nodup hu rfl ob om (flip_own _ _) om), fun m => ?_, List.mem_map.mpr ⟨u, hu, rfl⟩⟩
    have q := congrArg Row.back (one_row h.nodup m hu rfl)
    exact flip_ne q
  · refine ⟨shelf_set h ⟨k.name, k.back, flip_name k.name, k.takes, k.makes, k.some_, k.yarn⟩ (fit_own h.part h.nodup hu rfl ob om ob (flip_own _ _)), fun m => ?_, List.mem_map.mpr ⟨u, hu, rfl⟩⟩
    have q := congrArg Row.mirror (one_row h.nodup m hu rfl)
    exact flip_ne q
theorem yarn_not {rs : List Row} {u : Row} (h : ShelfOk rs) (hu : u ∈ rs) : moreYarn u ∉ rs := fun m => by
  have q := congrArg Row.yarn (one_row h.nodup m hu rfl)
  change u.yarn + 1 = u.yarn at q
  omega
theorem sorted_set_ne {rs : List Row} {v : Row} (no : v ∉ rs) (n : v.name ∈ rs.map (·.name)) : decide (rowsSorted rs = rowsSorted (setRow rs v)) = false := decide_eq_false fun e => by
  obtain ⟨u, hu, en⟩ := List.mem_map.mp n
  have m : v ∈ rowsSorted (setRow rs v) := (List.mergeSort_perm _ _).mem_iff.mpr (set_has hu en)
  rw [← e] at m
  exact no ((List.mergeSort_perm _ _).mem_iff.mp m)
theorem sorted_perm {rs us : List Row} (p : us.Perm rs) (nd : (rs.map (·.name)).Nodup) : rowsSorted us = rowsSorted rs := by
  have pr : ∀ l : List Row, (rowsSorted l).Pairwise fun x y => leS x.name y.name = true := fun l => List.pairwise_map.mp (rowsSorted_names l).2
  refine ((List.mergeSort_perm _ _).trans (p.trans (List.mergeSort_perm _ _).symm)).eq_of_pairwise (fun a b ha hb h1 h2 => ?_) (pr us) (pr rs)
  exact one_row nd (p.mem_iff.mp ((List.mergeSort_perm _ _).mem_iff.mp ha)) ((List.mergeSort_perm _ _).mem_iff.mp hb) (leS_anti _ _ h1 h2)
theorem shelf_perm {rs us : List Row} (p : us.Perm rs) (h : ShelfOk rs) : ShelfOk us := by
  have m : ∀ u, u ∈ us ↔ u ∈ rs := fun u => p.mem_iff
  refine ⟨fun r hr => h.kind r ((m r).mp hr), ⟨fun r hr x hx => ?_, fun r hr x hx => ?_, fun r hr x y hx hy => ?_⟩, (p.map _).nodup_iff.mpr h.nodup, by rw [p.length_eq]; exact h.len⟩
  · obtain ⟨z, hz, q⟩ := h.part.back r ((m r).mp hr) x hx
    exact ⟨z, (m z).mpr hz, q⟩
  · obtain ⟨z, hz, q⟩ := h.part.mirror r ((m r).mp hr) x hx
    exact ⟨z, (m z).mpr hz, q⟩
  · obtain ⟨z, hz, t, ht, q⟩ := h.part.agree r ((m r).mp hr) x y hx hy
    exact ⟨z, (m z).mpr hz, t, (m t).mpr ht, q⟩
theorem perm_map_inv {α β : Type} {f : α → β} : ∀ {ys xs : List β}, ys.Perm xs → ∀ ws : List α, xs = ws.map f → ∃ us : List α, us.Perm ws ∧ ys = us.map f := by
  intro ys xs p
  induction p with
  | nil => exact fun ws e => ⟨ws, .refl _, e⟩
  | cons x p ih =>
    intro ws e
    cases ws with
    | nil => cases e
    | cons w ws =>
      rw [List.map_cons, List.cons.injEq] at e
      obtain ⟨us, q, h⟩ := ih ws e.2
      exact ⟨w :: us, q.cons w, by rw [List.map_cons, h, e.1]⟩
  | swap x y l =>
    intro ws e
    match ws, e with
    | a :: b :: ws, e =>
      rw [List.map_cons, List.map_cons, List.cons.injEq, List.cons.injEq] at e
      exact ⟨b :: a :: ws, .swap _ _ _, by rw [List.map_cons, List.map_cons, e.1, e.2.1, e.2.2]⟩
  | trans p q ih1 ih2 =>
    intro ws e
    obtain ⟨us, q1, h1⟩ := ih2 ws e
    obtain ⟨vs, q2, h2⟩ := ih1 us h1
    exact ⟨vs, q2.trans q1, h2⟩
theorem shop_put {H : Hp} {v : Row} {a : Addr} : ∀ {kvs : List (Key × V)} {us : List Row}, Paired (KvAt H) kvs us → RowAt H a v → Paired (KvAt H) (kvs.map fun kv => if kv.1 = .inr v.name then (kv.1, V.ref a) else kv) (setRow us v)
  | _, _, .nil, _ => .nil
  | _, _, .cons (b := r) ⟨b, e, z⟩ y, hv => by
    refine .cons ?_ (shop_put y hv)
    subst e
    show KvAt H (if (Sum.inr r.name : Key) = .inr v.name then ((.inr r.name : Key), V.ref a) else (.inr r.name, .ref b)) (if r.name = v.name then v else r)
    by_cases h : r.name = v.name
    · have h' : (Sum.inr r.name : Key) = .inr v.name := by rw [h]
      rw [if_pos h', if_pos h]
      exact ⟨a, by rw [h], hv⟩
    · rw [if_neg (fun q => h (Sum.inr.inj q)), if_neg h]
      exact ⟨b, rfl, z⟩
theorem put_is {H : Hp} {kvs : List (Key × V)} {us : List Row} {v : Row} {x : V} (h : Paired (KvAt H) kvs us) (m : v.name ∈ us.map (·.name)) : putK kvs (.inr v.name) x = kvs.map fun kv => if kv.1 = .inr v.name then (kv.1, x) else kv := by
  unfold putK
  refine if_pos ?_
  rw [List.any_eq_true]
  obtain ⟨u, hu, e⟩ := List.mem_map.mp m
  have ks := kv_keys h
  have : keyOf u ∈ kvs.map (·.1) := by
    rw [ks]
    exact List.mem_map_of_mem hu
  obtain ⟨kv, hk, ek⟩ := List.mem_map.mp this
  exact ⟨kv, hk, decide_eq_true (by rw [ek, keyOf, e])⟩
end N

set_option maxHeartbeats 4000000
namespace N
open PySem L2
def spEqualRight (CB C : Addr) (T : List (Addr × Str)) : Sp := fun vs H Q _ => ∃ (p b d : Addr) (rs : List Row), vs = [.ref p, .ref b, .ref d] ∧ Pot H p ∧ BookAt CB C H b rs (rowsSorted rs) ∧ ShopAt H d rs ∧ ShelfOk rs ∧ (∀ u ∈ rs, u.yarn ≤ 900) ∧ LamX.Tabs T H ∧
  ∀ H', Pot H' p → XB p H H' → LamX.Tabs T H' → Q (.bl true) H'
theorem cut_mem {xs : List V} {lo hi : Option Int} {x : V} (h : x ∈ cutV xs lo hi) : x ∈ xs := List.mem_of_mem_drop (List.mem_of_mem_take h)
section
variable {P : Program} {w : World} {K : PySem.W.Frag} {mg : Str → Option Value} {base : Heap} {C CB : Addr} {Cs : Nat → Addr}
abbrev s__law_equal_right : Stmt := top 54
theorem sc__law_equal_right : FnScope ["_law_pot_here", "_law_real", "_law_model", "_law_labels", "_law_same", "_law_label", "_law_other", "_law_far", "_law_label_of", "_law_row_here", "_law_bent_here"] ["_law_pot_here", "_law_real", "_law_model"] (defScope s__law_equal_right) := ⟨rfl, rfl, rfl, by decide +kernel, rfl, by decide +kernel, by decide +kernel⟩
theorem h_law_equal_right {T : List (Addr × Str)} (B : Blts mg) (U : BookT K mg CB) (KT : KindT K mg C Cs) (F : FunAt K mg "_law_equal_right" "_law_equal_right" s__law_equal_right)
    (neB : PySem.W.findIn K (.ref CB) "__ne__" = some (some (.builtin "object.__ne__"))) (neK : PySem.W.findIn K (.ref C) "__ne__" = some (some (.builtin "object.__ne__"))) (sD : PySem.W.subIn K (.type "dict") (.ref CB) = some false) (sL : PySem.W.subIn K (.type "list") (.ref CB) = some false)
    (h_law_draw : Has P w K mg base "_law_draw" 1 ["_law_pot_here", "_law_many"] spDraw) (h_law_mixed : Has P w K mg base "_law_mixed" 2 ["_law_pot_here", "_law_given"] (spMixed K)) (h_law_real_book : Has P w K mg base "_law_real_book" 8 ["_law_book_here"] (spRealBook CB C T))
    (h_law_bent : Has P w K mg base "_law_bent" 1 ["_law_model"] (spBent K)) (m_kind : HasMK P w K mg base CB "kind" 2 "self" "name" (spKindNamed CB C)) (m_eqB : HasM P w K mg base CB "__eq__" 6 ["self", "other"] (spEqB K CB C)) (m_eqK : HasM P w K mg base C "__eq__" 4 ["self", "other"] (spEqK K C)) :
    Has P w K mg base "_law_equal_right" 9 ["_law_pot_here", "_law_real", "_law_model"] (spEqualRight CB C T) := by
  refine has_of F sc__law_equal_right (fun _ _ _ _ _ _ us hl => match us, hl with | [_, _, _], _ => rfl) (fun vs H Q E h => ?_) (fun f cdv A outer s H vs Q E hr h => ?_)
  · obtain ⟨_, _, _, _, rfl, _⟩ := h
    rfl
  · obtain ⟨p, b, d, rs, rfl, hp, hb, hs, ok, y9, hT, k⟩ := h
    refine ⟨_, (pss_cons (ps_set (i := 3) sc__law_equal_right.nd rfl (Or.inl rfl) (pe_has h_law_mixed (hr.mono (by decide)) (pa_cons (pv 0) (pa_cons (pe_callB (call_sortedD rfl) (by rfl) B.n_sorted (by decide +kernel) (pa_cons (pv 2) pa_nil)) pa_nil))))
      (pss_cons (ps_set (i := 4) sc__law_equal_right.nd rfl (Or.inl rfl) (pe_has h_law_real_book (hr.mono (by decide)) (pa_cons (pe_callTy (call_dictP rfl) (by rfl) B.n_dict (by decide +kernel) (pa_cons (pe_lc (own := [("_law_label", 5)]) rfl sc__law_equal_right.nd (pi_list (pv 3)) (blkOk_by (own := [("_law_label", 5)]) (N := ["_law_pot_here", "_law_real", "_law_model", "_law_labels", "_law_same", "_law_label", "_law_other", "_law_far", "_law_label_of", "_law_row_here", "_law_bent_here"]) (sc := defScope s__law_equal_right) (by decide +kernel)) (fun _ _ _ _ _ => by exact (pg_name (i := 5) sc__law_equal_right.nd rfl (Or.inl rfl))) (fun _ _ _ _ _ => by exact pts_nil) (fun _ _ _ _ _ => by exact (pe_tup (pa_cons (pv 5) (pa_cons (pe_dget hr.u1 (pv 2) (pv 5) (fun _ _ => rfl)) pa_nil))))) pa_nil)) pa_nil)))
      (pss_cons (ps_set (i := 6) sc__law_equal_right.nd rfl (Or.inl rfl) (pe_callTy call_dictD (by rfl) B.n_dict (by decide +kernel) (pa_cons (pv 2) pa_nil)))
      (pss_cons (ps_set (i := 5) sc__law_equal_right.nd rfl (Or.inl rfl) (pe_ix ix_list (pv 3) pe_int (fun _ _ => rfl)))
      (pss_cons (ps_dput hr.u1 (pv 6) (pv 5) (pe_op op_catT (pe_slice sl_tup (pe_dget hr.u1 (pv 2) (pv 5) (fun _ _ => rfl)) po_none (po_some pe_int)) (pe_tup (pa_cons (pe_op op_add (pe_ix ix_tup (pe_dget hr.u1 (pv 2) (pv 5) (fun _ _ => rfl)) pe_int (fun _ _ => rfl)) pe_int) pa_nil))) rfl)
      (pss_cons (ps_set (i := 7) sc__law_equal_right.nd rfl (Or.inl rfl) (pe_has h_law_real_book (hr.mono (by decide)) (pa_cons (pv 6) pa_nil)))
      (pss_cons (ps_if (pt_cmpR (op_neD hr.units) (pe_lst (pa_cons (pe_cmpR (op_eqKind m_eqB (hr.mono (by decide))) (pv 1) (pv 4) (by first | exact nomark _ | rfl)) (pa_cons (pe_cmpR (op_eqKind m_eqB (hr.mono (by decide))) (pv 4) (pv 1) (by first | exact nomark _ | rfl)) (pa_cons (pe_cmpR (op_neKind U.own.mo neB m_eqB (hr.mono (by decide))) (pv 1) (pv 4) (by first | exact nomark _ | rfl)) (pa_cons (pe_cmpR (op_eqKind m_eqB (hr.mono (by decide))) (pv 1) (pv 7) (by first | exact nomark _ | rfl)) (pa_cons (pe_cmpR (op_neKind U.own.mo neB m_eqB (hr.mono (by decide))) (pv 1) (pv 7) (by first | exact nomark _ | rfl)) pa_nil)))))) (pe_lst (pa_cons pe_bl (pa_cons pe_bl (pa_cons pe_bl (pa_cons pe_bl (pa_cons pe_bl pa_nil)))))) (by first | exact nomark _ | rfl)) (pss_one (ps_ret pe_bl))
        pss_nil)
      (pss_cons (ps_for PassesOwn.never rfl (pi_list (pe_slice sl_list (pe_has h_law_bent (hr.mono (by decide)) (pa_cons (pv 2) pa_nil)) po_none (po_some (pe_has h_law_draw (hr.mono (by decide)) (pa_cons (pv 0) (pa_cons pe_int pa_nil)))))) (pg_tup rfl (pgs_cons (pg_name (i := 8) sc__law_equal_right.nd rfl (Or.inl rfl)) (pgs_cons (pg_name (i := 9) sc__law_equal_right.nd rfl (Or.inl rfl)) pgs_nil)))
        (pss_cons (ps_set (i := 10) sc__law_equal_right.nd rfl (Or.inl rfl) (pe_callTy call_dictD (by rfl) B.n_dict (by decide +kernel) (pa_cons (pv 2) pa_nil)))
        (pss_cons (ps_dput hr.u1 (pv 10) (pv 8) (pv 9) rfl)
        (pss_one (ps_if (PW.pt (pw_or (pt_cmpR (op_eqKind m_eqB (hr.mono (by decide))) (pv 1) (pe_has h_law_real_book (hr.mono (by decide)) (pa_cons (pv 10) pa_nil)) (by first | exact nomark _ | rfl)) (pw_or1 (pt_not (pt_cmpR (op_neKind U.own.mo neB m_eqB (hr.mono (by decide))) (pe_has h_law_real_book (hr.mono (by decide)) (pa_cons (pv 10) pa_nil)) (pv 1) (by first | exact nomark _ | rfl)))))) (pss_one (ps_ret pe_bl))
          pss_nil)))))
      (pss_one (ps_ret (pe_and (pe_cmpR (op_neKind U.own.mo neB m_eqB (hr.mono (by decide))) (pv 1) (pv 2) (by first | exact nomark _ | rfl)) (pe_and (pe_cmpR (op_neKind U.own.mo neB m_eqB (hr.mono (by decide))) (pv 1) (pv 3) (by first | exact nomark _ | rfl)) (pe_one (pe_cmpR (op_neKind KT.own.mo neK m_eqK (hr.mono (by decide))) (pe_hasM m_kind.m U.cl (hr.mono (by decide)) (pv 1) (pa_cons (pv 5) pa_nil)) (pe_hasM m_kind.m U.cl (hr.mono (by decide)) (pv 7) (pa_cons (pv 5) pa_nil)) (by first | exact nomark _ | rfl))))))))))))))), ?_⟩
    obtain ⟨kvs, hd, hk⟩ := id hs
    have nd := ok.nodup
    have l10 := ok.len
    have lq : (rowsSorted rs).length = rs.length := by have := (rowsSorted_names rs).1.length_eq; simpa using this
    have msort : ∀ u, u ∈ rowsSorted rs ↔ u ∈ rs := fun u => (List.mergeSort_perm _ _).mem_iff
    have okq : ∀ u ∈ rowsSorted rs, KindOk u := fun u hu => ok.kind u ((msort u).mp hu)
    have l64 : (rs.map (·.name)).length < 64 := by rw [List.length_map]; omega
    have lk : kvs.length = 10 := (paired_len hk).trans l10
    -- the labels, mixed
    refine ⟨_, rfl, _, rfl, d, kvs, rs.map (·.name), rfl, .inl hd, ShopAt.keys hk, l64, fun names nl pm so nn => ?_⟩
    obtain rfl := sorted_are pm so
    have s1 : Same H (upd H nl (.lst (((rowsSorted rs).map (·.name)).map V.str))) := Same.new nn
    have hn1 : (upd H nl (.lst (((rowsSorted rs).map (·.name)).map V.str))) nl = some (.lst (((rowsSorted rs).map (·.name)).map V.str)) := upd_same
    have np : nl ≠ p := fun z => by
      obtain ⟨x, y, e, _⟩ := hp
      rw [z, e] at nn
      cases nn
    refine ⟨p, nl, _, rfl, hp.new nn, SqL.of hn1, np, by rw [List.length_map, List.length_map, lq]; omega, fun q ys H1 nq hq hperm hp1 e1 => ?_⟩
    have x01 : XB p H H1 := XB.trans (XB.ext (LamX.ExtN.of s1)) (XB.of e1)
    have qp : q ≠ p := fun z => by
      obtain ⟨x, y, e, _⟩ := hp.new (o := .lst (((rowsSorted rs).map (·.name)).map V.str)) nn
      rw [z, e] at nq
      cases nq
    have T1 : LamX.Tabs T H1 := tabs_but (hp.new nn) (fun z hz => (hT z hz).ext s1) e1
    obtain ⟨us, pus, eys⟩ := perm_map_inv hperm (rowsSorted rs) (f := fun u : Row => V.str u.name) (by rw [List.map_map]; rfl)
    subst eys
    have prs : us.Perm rs := pus.trans (List.mergeSort_perm _ _)
    have oku := shelf_perm prs ok
    have mus : ∀ u, u ∈ us ↔ u ∈ rs := fun u => prs.mem_iff
    have hb1 := hb.xb hp x01
    have hs1 : H1 d = some (.dK kvs) ∧ Paired (KvAt H1) kvs rs := by
      refine ⟨x01 _ _ hd (hp.off hd fun _ z => by cases z) (fun _ z => by cases z), paired_imp (fun _ _ ⟨a, x, ra⟩ => ⟨a, x, x01 _ _ ra (hp.off ra fun _ z => by cases z) (fun _ z => by cases z)⟩) hk⟩
    clear hn1 hperm nq hs
    obtain ⟨hd1, hk1⟩ := hs1
    refine next_of ?_
    dsimp only
    -- the same kinds in another sequence
    refine ⟨_, rfl, q, rfl, ⟨_, SqL.of hq⟩, fun D nD => lc_it walk_list (fun i Hh => Same H1 Hh ∧ ∃ ts : List Addr, Hh D = some (.lst (ts.map V.ref)) ∧ ts.length = i ∧ Paired (PairAt Hh) ts (us.take i)) ⟨Same.new nD, [], upd_same, rfl, .nil⟩ (fun i Hh _ p => SqL.of (p.1 _ _ hq)) ?_ (fun Hz p => ?_)⟩
    · rintro i x H2 H3 hi ⟨p1, ts, hD, hl, hps⟩ ⟨rfl, hx⟩
      rw [List.length_map] at hi
      rw [List.getElem?_map] at hx
      cases hu : us[i]? with
      | none => rw [hu] at hx; cases hx
      | some u =>
        rw [hu] at hx
        cases (Option.some.inj hx : V.str u.name = x)
        obtain ⟨a, g, ra⟩ := shop_get hk1 nd u ((mus u).mp (List.mem_of_getElem? hu))
        refine ⟨rfl, ?_⟩
        simp only [tYes, if_true]
        refine ⟨_, rfl, _, rfl, _, rfl, d, .ref a, rfl, .inl ⟨kvs, .inr u.name, .inl (p1 _ _ hd1), rfl, g.symm⟩, (by show 2 ≤ sizeLine; decide), fun t nt => ?_⟩
        have st : Same H3 (upd H3 t (.tup [.str u.name, .ref a])) := Same.new nt
        have hDt := st _ _ hD
        have tD : t ≠ D := (ne_of_none hD nt).symm
        have keep : ∀ {c : Addr} {xs : List V}, H3 c = some (.tup xs) → (upd (upd H3 t (.tup [.str u.name, .ref a])) D (.lst (ts.map V.ref ++ [.ref t]))) c = some (.tup xs) := fun {c xs} h => (upd_ne fun z => by rw [z, hD] at h; cases h).trans (st _ _ h)
        refine ⟨_, hDt, by rw [List.length_map, hl, sizeLine_eq]; have := oku.len; omega, (p1.trans st).mut nD, ts ++ [t], ?_, by rw [List.length_append, hl]; rfl, ?_⟩
        · rw [upd_same, List.map_append]
          rfl
        · rw [List.take_add_one, hu]
          refine paired_app (paired_imp (fun c v ⟨a, e, z⟩ => ⟨a, keep e, keep z⟩) hps) (.cons ⟨a, (upd_ne tD).trans upd_same, keep (p1 _ _ ra)⟩ .nil)
    · obtain ⟨p1, ts, hD, hl, hps⟩ := p
      rw [List.length_map, List.take_length] at hps
      obtain ⟨kv2, hkv, hrows⟩ := kvs_of (K := K) hps
      have m1 : mergeK [] kv2 = kv2 := by
        rw [mergeK_app (kvs := []) (fun _ _ _ h => nomatch h)]
        · rfl
        · rw [kvs_keys hrows, show (us.map fun r => (.inr r.name : Key)) = (us.map (·.name)).map Sum.inr by rw [List.map_map]; rfl]
          exact nodup_map (fun _ _ h => Sum.inr.inj h) oku.nodup
      refine ⟨D, ts, kv2, rfl, SqL.of hD, hkv, fun o no => ⟨o, us, rfl, ⟨_, upd_same, ?_⟩, oku, fun z hz => (T1 z hz).ext (p1.trans (Same.new no)), fun b2 H4 nb2 e4 T4 hb2 => ?_⟩⟩
      · rw [m1]
        exact Same.kv (Same.new no) hrows
      have x14 : LamX.ExtN H1 H4 := (LamX.ExtN.of (p1.trans (Same.new no))).trans e4
      clear hps hrows hkv hD m1
      refine next_of ?_
      dsimp only
      -- one kind with more yarn
      have hd4 := x14 _ _ hd1 (fun _ z => by cases z)
      have hk4 : Paired (KvAt H4) kvs rs := paired_imp (fun _ _ ⟨a, x, ra⟩ => ⟨a, x, x14 _ _ ra (fun _ z => by cases z)⟩) hk1
      have hb4 := hb1.ext x14
      have hq4 := xlst hq x14
      have T4' := T4
      refine ⟨_, rfl, d, kvs, rfl, .inl hd4, fun o2 no2 => ?_⟩
      have s5 : Same H4 (upd H4 o2 (.dK kvs)) := Same.new no2
      have ho5 : (upd H4 o2 (.dK kvs)) o2 = some (.dK kvs) := upd_same
      generalize upd H4 o2 (.dK kvs) = H5 at s5 ho5 ⊢
      refine next_of ?_
      dsimp only
      obtain ⟨u0, ur, eu⟩ : ∃ u ws, us = u :: ws := by
        cases e : us with
        | nil =>
          have := oku.len
          rw [e] at this
          cases this
        | cons u ws => exact ⟨u, ws, rfl⟩
      have m0 : u0 ∈ rs := (mus u0).mp (by rw [eu]; exact .head _)
      have h0 : atI (us.map fun u => V.str u.name) 0 = some (.str u0.name) := by
        rw [eu]
        exact atI_nat (j := 0) rfl
      refine ⟨_, rfl, q, _, 0, _, rfl, rfl, SqL.of (s5 _ _ hq4), h0, ?_⟩
      refine next_of ?_
      dsimp only
      obtain ⟨a0, g0, r0⟩ := shop_get hk4 nd u0 m0
      have r5 : RowAt H5 a0 u0 := s5 _ _ r0
      have hd5 := s5 _ _ hd4
      refine ⟨_, rfl, _, rfl, d, .ref a0, rfl, .inl ⟨kvs, .inr u0.name, .inl hd5, rfl, g0.symm⟩, _, rfl, a0, _, rfl, SqT.of r5, (fun z => absurd (show HT.sIx 5 5 (some 4) = 5 from z.2) (by decide)), fun q1 nq1 => ?_⟩
      generalize eY1 : upd H5 q1 _ = Y1
      have SY1 : Same H5 Y1 := by
        rw [← eY1]
        exact Same.new nq1
      have Fq1 : Y1 q1 = some (.tup [.int u0.takes, .int u0.makes, ov u0.back, ov u0.mirror]) := by
        rw [← eY1]
        exact upd_same
      clear eY1
      refine ⟨_, rfl, _, rfl, d, .ref a0, rfl, .inl ⟨kvs, .inr u0.name, .inl ((SY1) _ _ hd5), rfl, g0.symm⟩, a0, _, 4, _, rfl, rfl, SqT.of ((SY1) _ _ r5), rfl, _, _, rfl, rfl, (by show 1 ≤ sizeLine; decide), fun q2 nq2 => ?_⟩
      generalize eY2 : upd Y1 q2 _ = Y2
      have SY2 : Same Y1 Y2 := by
        rw [← eY2]
        exact Same.new nq2
      have Fq2 : Y2 q2 = some (.tup [.int (u0.yarn + 1)]) := by
        rw [← eY2]
        exact upd_same
      clear eY2
      refine ⟨q1, q2, _, _, rfl, rfl, SqT.of ((SY2) _ _ Fq1), SqT.of Fq2, (fun z => by cases z), (by show 5 ≤ sizeLine; decide), (fun z => by cases z), fun _ => fun q3 nq3 => ?_⟩
      generalize eH6 : upd Y2 q3 _ = H6
      have SY3 : Same Y2 H6 := by
        rw [← eH6]
        exact Same.new nq3
      have Fq3 : H6 q3 = some (.tup ([.int u0.takes, .int u0.makes, ov u0.back, ov u0.mirror] ++ [.int (u0.yarn + 1)])) := by
        rw [← eH6]
        exact upd_same
      clear eH6
      have s6 : Same H5 H6 := (SY1.trans SY2).trans SY3
      have f3 : RowAt H6 q3 (moreYarn u0) := Fq3
      have ho6 := s6 _ _ ho5
      have hk6 : Paired (KvAt H6) kvs rs := Same.kv (s5.trans s6) hk4
      refine ⟨_, rfl, _, rfl, o2, _, rfl, DPut.k (k := .inr u0.name) ho6 (by rw [lk]; show 10 < sizeLine; decide), ?_⟩
      have n0 : (moreYarn u0).name ∈ rs.map (·.name) := List.mem_map_of_mem (f := (·.name)) m0
      have ep : putK kvs (.inr u0.name) (.ref q3) = kvs.map fun kv => if kv.1 = .inr (moreYarn u0).name then (kv.1, .ref q3) else kv := put_is (v := moreYarn u0) hk6 n0
      have nX : ∀ c o, H4 c = some o → c ≠ o2 := fun c o h => ne_of_none h no2
      have s47 : Same H4 (upd H6 o2 (.dK (putK kvs (.inr u0.name) (.ref q3)))) := fun c o h => (upd_ne (nX c o h)).trans ((s5.trans s6) _ _ h)
      have kt7 : ∀ {c : Addr} {xs : List V}, H6 c = some (.tup xs) → (upd H6 o2 (.dK (putK kvs (.inr u0.name) (.ref q3)))) c = some (.tup xs) := fun {c xs} h => (upd_ne fun z => by rw [z, ho6] at h; cases h).trans h
      have hk7 : Paired (KvAt (upd H6 o2 (.dK (putK kvs (.inr u0.name) (.ref q3))))) (putK kvs (.inr u0.name) (.ref q3)) (setRow rs (moreYarn u0)) := by
        rw [ep]
        have z : Paired (KvAt (upd H6 o2 (.dK (putK kvs (.inr u0.name) (.ref q3))))) kvs rs := paired_imp (fun _ _ ⟨a, x, ra⟩ => ⟨a, x, kt7 ra⟩) hk6
        rw [ep] at z
        refine shop_put z ?_
        have z2 := kt7 f3
        rw [ep] at z2
        exact z2
      refine next_of ?_
      dsimp only
      have oky := shelf_yarn ok m0 (y9 u0 m0)
      refine ⟨_, rfl, o2, setRow rs (moreYarn u0), rfl, ⟨_, upd_same, hk7⟩, oky, fun z hz => (T4 z hz).ext s47, fun b3 H8 nb3 e8 T8 hb8 => ?_⟩
      have x48 : LamX.ExtN H4 H8 := (LamX.ExtN.of s47).trans e8
      clear hk7 kt7 ep f3 ho6 hk6
      refine next_of ?_
      dsimp only
      -- the five comparisons
      have A8 := hb4.ext x48
      have S8 := hb2.ext x48
      have okw : ∀ u ∈ rowsSorted us, KindOk u := fun u hu => oku.kind u ((List.mergeSort_perm _ _).mem_iff.mp hu)
      have oky' : ∀ u ∈ rowsSorted (setRow rs (moreYarn u0)), KindOk u := fun u hu => oky.kind u ((List.mergeSort_perm _ _).mem_iff.mp hu)
      have E1 : decide (rowsSorted rs = rowsSorted us) = true := decide_eq_true (sorted_perm prs nd).symm
      have E2 : decide (rowsSorted us = rowsSorted rs) = true := decide_eq_true (sorted_perm prs nd)
      have E3 : decide (rowsSorted rs = rowsSorted (setRow rs (moreYarn u0))) = false := sorted_set_ne (yarn_not ok m0) n0
      have cmp : ∀ {Hx : Hp} {x y : Addr} {r1 w1 r2 w2 : List Row} {Qx : VK} {v : Bool}, BookAt CB C Hx x r1 w1 → BookAt CB C Hx y r2 w2 → (∀ u ∈ w1, KindOk u) → (∀ u ∈ w2, KindOk u) → decide (w1 = w2) = v → (∀ Hy, Same Hx Hy → Qx (.bl v) Hy) → rCmpOwn K CB (spEqB K CB C) E0 (.ref x) (.ref y) Hx Qx := fun {Hx x y r1 w1 r2 w2 Qx v} h1 h2 o1 o2 e q => by
        obtain ⟨d1, _, _, _, _, i1, _⟩ := id h1
        obtain ⟨d2, _, _, _, _, i2, _⟩ := id h2
        exact ⟨x, d1, _, .ref CB, rfl, i1, U.own.ty i2, notFirst_self, x, .ref y, r1, w1, rfl, h1, o1, .inl ⟨y, r2, w2, rfl, h2, o2, fun Hy s => by rw [e]; exact q Hy s⟩⟩
      have cmpN : ∀ {Hx : Hp} {x y : Addr} {r1 w1 r2 w2 : List Row} {Qx : VK} {v : Bool}, BookAt CB C Hx x r1 w1 → BookAt CB C Hx y r2 w2 → (∀ u ∈ w1, KindOk u) → (∀ u ∈ w2, KindOk u) → decide (w1 = w2) = v → (∀ Hy, Same Hx Hy → Qx (.bl (!v)) Hy) → rNeOwn K CB (spEqB K CB C) E0 (.ref x) (.ref y) Hx Qx := fun {Hx x y r1 w1 r2 w2 Qx v} h1 h2 o1 o2 e q => by
        obtain ⟨d1, _, _, _, _, i1, _⟩ := id h1
        obtain ⟨d2, _, _, _, _, i2, _⟩ := id h2
        exact ⟨x, d1, _, .ref CB, rfl, i1, U.own.ty i2, notFirst_self, x, .ref y, r1, w1, rfl, h1, o1, .inl ⟨y, r2, w2, rfl, h2, o2, fun Hy s => by rw [e]; exact ⟨v, rfl, q Hy s⟩⟩⟩
      refine ⟨_, rfl, _, rfl, cmp A8 S8 okq okw E1 fun J1 j1 => ⟨_, rfl, _, rfl, cmp (S8.same j1) (A8.same j1) okw okq E2 fun J2 j2 => ⟨_, rfl, _, rfl, cmpN ((A8.same j1).same j2) ((S8.same j1).same j2) okq okw E1 fun J3 j3 => ?_⟩⟩⟩
      have j03 := (j1.trans j2).trans j3
      refine ⟨_, rfl, _, rfl, cmp (A8.same j03) (hb8.same j03) okq oky' E3 fun J4 j4 => ⟨_, rfl, _, rfl, cmpN ((A8.same j03).same j4) ((hb8.same j03).same j4) okq oky' E3 fun J5 j5 => ?_⟩⟩
      have j05 := (j03.trans j4).trans j5
      refine ⟨(by show 5 ≤ sizeLine; decide), fun L1 nL1 => ⟨(by show 5 ≤ sizeLine; decide), fun L2 nL2 => ?_⟩⟩
      have s9 : Same J5 (upd (upd J5 L1 (.lst [.bl true, .bl true, .bl (!true), .bl false, .bl (!false)])) L2 (.lst [.bl true, .bl true, .bl false, .bl false, .bl true])) := (Same.new nL1).trans (Same.new nL2)
      have fL1 : (upd (upd J5 L1 (.lst [.bl true, .bl true, .bl (!true), .bl false, .bl (!false)])) L2 (.lst [.bl true, .bl true, .bl false, .bl false, .bl true])) L1 = some (.lst [.bl true, .bl true, .bl (!true), .bl false, .bl (!false)]) := (Same.new nL2) _ _ upd_same
      refine ⟨.list [.bool true, .bool true, .bool false, .bool false, .bool true], .list [.bool true, .bool true, .bool false, .bool false, .bool true], .lst (SqL.of fL1) (.cons (.bl _) (.cons (.bl _) (.cons (.bl _) (.cons (.bl _) (.cons (.bl _) .nil))))), .lst (SqL.of upd_same) (.cons (.bl _) (.cons (.bl _) (.cons (.bl _) (.cons (.bl _) (.cons (.bl _) .nil))))), (by decide +kernel), (by decide +kernel), _, rfl, ?_⟩
      rw [show PyData.eqv (.list [.bool true, .bool true, .bool false, .bool false, .bool true]) (.list [.bool true, .bool true, .bool false, .bool false, .bool true]) = true by decide +kernel]
      refine iteF ?_
      have s89 := j05.trans s9
      have x49 : LamX.ExtN H4 _ := x48.trans (LamX.ExtN.of s89)
      have T9 : LamX.Tabs T _ := fun z hz => (T8 z hz).ext s89
      have B9 := hb8.same s89
      clear s9 fL1 j05 j03 j1 j2 j3 j4 j5 A8 S8 hb8
      generalize upd (upd J5 L1 _) L2 _ = H9 at s89 x49 T9 B9 ⊢
      refine next_of ?_
      dsimp only
      -- bent books
      have hd9 := x49 _ _ hd4 (fun _ z => by cases z)
      have hk9 : Paired (KvAt H9) kvs rs := paired_imp (fun _ _ ⟨a, x, ra⟩ => ⟨a, x, x49 _ _ ra (fun _ z => by cases z)⟩) hk4
      have hp9 : Pot H9 p := (hp1.xb x14).xb x49
      refine ⟨_, rfl, d, rs, rfl, ⟨kvs, hd9, hk9⟩, nd, by omega, fun G H10 gs vs nG hG hgs hl hv s10 => ?_⟩
      have hp10 := hp9.xb (LamX.ExtN.of s10)
      have Gp : G ≠ p := fun z => by
        obtain ⟨x, y, e, _⟩ := hp9
        rw [z, e] at nG
        cases nG
      refine ⟨_, rfl, p, 5, rfl, hp10, by decide, by decide, fun dd H11 d0 d1 hp11 e11 => ⟨dd, rfl, G, _, rfl, SqL.of (e11 _ _ hG Gp), fun G2 nG2 => ?_⟩⟩
      have s12 : Same H11 (upd H11 G2 (.lst (cutV (gs.map V.ref) none (some dd)))) := Same.new nG2
      have fG2 : (upd H11 G2 (.lst (cutV (gs.map V.ref) none (some dd)))) G2 = some (.lst (cutV (gs.map V.ref) none (some dd))) := upd_same
      have kp : KeepT H10 (upd H11 G2 (.lst (cutV (gs.map V.ref) none (some dd)))) := KeepT.trans (KeepT.but hp10 e11) (fun c xs h => s12 _ _ h)
      have hgs12 : Paired (PairAt (upd H11 G2 (.lst (cutV (gs.map V.ref) none (some dd))))) gs vs := paired_imp (fun _ _ => PairAt.keep kp) hgs
      have hp12 := hp11.xb (LamX.ExtN.of s12)
      have x912 : XB p H9 (upd H11 G2 (.lst (cutV (gs.map V.ref) none (some dd)))) := XB.trans (XB.trans (XB.ext (LamX.ExtN.of s10)) (XB.of e11)) (XB.ext (LamX.ExtN.of s12))
      have T12 : LamX.Tabs T (upd H11 G2 (.lst (cutV (gs.map V.ref) none (some dd)))) := fun z hz => (tabs_but hp10 (fun y hy => (T9 y hy).ext s10) e11 z hz).ext s12
      clear kp s12
      generalize upd H11 G2 (.lst (cutV (gs.map V.ref) none (some dd))) = H12 at fG2 hgs12 hp12 x912 T12 ⊢
      have hd12 := x912 _ _ hd9 (hp9.off hd9 fun _ z => by cases z) (fun _ z => by cases z)
      have hk12 : Paired (KvAt H12) kvs rs := paired_imp (fun _ _ ⟨a, x, ra⟩ => ⟨a, x, x912 _ _ ra (hp9.off ra fun _ z => by cases z) (fun _ z => by cases z)⟩) hk9
      have A12 := (hb4.ext x49).xb hp9 x912
      have B12 := B9.xb hp9 x912
      have hq12 : H12 q = some (.lst (us.map fun u => V.str u.name)) := x912 _ _ (xlst hq4 x49) qp (fun _ z => by cases z)
      refine ⟨G2, rfl, ⟨_, SqL.of fG2⟩, for_list (K := K) (a := G2) (xs := cutV (gs.map V.ref) none (some dd)) (fun i σ H' => ∃ v8 v9 v10 : Option V, σ = [some (.ref p), some (.ref b), some (.ref d), some (.ref q), some (.ref b2), some (.str u0.name), some (.ref o2), some (.ref b3), v8, v9, v10] ∧ LamX.ExtN H12 H' ∧ LamX.Tabs T H') ⟨none, none, none, rfl, LamX.ExtN.refl _, T12⟩ (fun i σ H' _ h => ?_) (fun i x σ H' hx h => ?_) (fun σ H' h => ?_)⟩
      · obtain ⟨_, _, _, _, e, _⟩ := h
        exact SqL.of (xlst fG2 e)
      · obtain ⟨v8, v9, v10, rfl, e, tb⟩ := h
        have mx := cut_mem (List.mem_of_getElem? hx)
        obtain ⟨g, hg, rfl⟩ := List.mem_map.mp mx
        obtain ⟨j, hj⟩ := List.getElem?_of_mem hg
        obtain ⟨v, hvj, ga, hga, hra⟩ := paired_get hgs12 hj
        obtain ⟨okv, nov, nmv⟩ := shelf_bent ok (hv v (List.mem_of_getElem? hvj))
        have okv' : ∀ u ∈ rowsSorted (setRow rs v), KindOk u := fun u hu => okv.kind u ((List.mergeSort_perm _ _).mem_iff.mp hu)
        have Ev : decide (rowsSorted rs = rowsSorted (setRow rs v)) = false := sorted_set_ne nov nmv
        have Ev' : decide (rowsSorted (setRow rs v) = rowsSorted rs) = false := decide_eq_false fun z => (of_decide_eq_false Ev) z.symm
        have hga' := xtup hga e
        have hra' : RowAt H' ga v := xtup hra e
        have hd' := e _ _ hd12 (fun _ z => by cases z)
        have hk' : Paired (KvAt H') kvs rs := paired_imp (fun _ _ ⟨a, x, ra⟩ => ⟨a, x, xtup ra e⟩) hk12
        have A' := A12.ext e
        refine ⟨g, _, rfl, SqT.of hga', rfl, _, _, rfl, _, _, rfl, rfl, ?_⟩
        refine ⟨_, rfl, d, kvs, rfl, .inl hd', fun o3 no3 => ?_⟩
        have t1 : Same H' (upd H' o3 (.dK kvs)) := Same.new no3
        refine next_of ?_
        dsimp only
        refine ⟨_, rfl, _, rfl, _, rfl, o3, _, rfl, DPut.k (k := .inr v.name) upd_same (by rw [lk]; show 10 < sizeLine; decide), ?_⟩
        rw [upd_upd, put_is hk' nmv]
        have t2 : Same H' (upd H' o3 (.dK (kvs.map fun kv => if kv.1 = .inr v.name then (kv.1, V.ref ga) else kv))) := Same.new no3
        have hk2 := shop_put (Same.kv t2 hk') (t2 _ _ hra')
        have ho3 : (upd H' o3 (.dK (kvs.map fun kv => if kv.1 = .inr v.name then (kv.1, V.ref ga) else kv))) o3 = some (.dK (kvs.map fun kv => if kv.1 = .inr v.name then (kv.1, V.ref ga) else kv)) := upd_same
        generalize upd H' o3 (.dK (kvs.map fun kv => if kv.1 = .inr v.name then (kv.1, V.ref ga) else kv)) = X1 at t2 hk2 ho3 ⊢
        refine next_of ?_
        dsimp only
        refine ⟨_, rfl, _, rfl, o3, setRow rs v, rfl, ⟨_, ho3, hk2⟩, okv, fun z hz => (tb z hz).ext t2, fun b4 X2 nb4 ex2 TX2 bk4 => cmp ((A'.same t2).ext ex2) bk4 okq okv' Ev fun X3 x3 => ⟨_, rfl, iteF ?_⟩⟩
        have y3 : LamX.ExtN X1 X3 := ex2.trans (LamX.ExtN.of x3)
        have ho3' := y3 _ _ ho3 (fun _ z => by cases z)
        have hk3 := paired_imp (fun _ _ ⟨a, x, ra⟩ => (⟨a, x, xtup ra y3⟩ : KvAt X3 _ _)) hk2
        have TX3 : LamX.Tabs T X3 := fun z hz => (TX2 z hz).ext x3
        refine ⟨_, rfl, o3, setRow rs v, rfl, ⟨_, ho3', hk3⟩, okv, TX3, fun b5 X4 nb5 ex4 TX4 bk5 => ?_⟩
        refine ⟨_, rfl, cmpN bk5 (((A'.same t2).ext y3).ext ex4) okv' okq Ev' fun X5 x5 => ?_⟩
        refine ⟨_, rfl, ?_⟩
        exact iteF ⟨_, _, _, rfl, ((e.trans (LamX.ExtN.of t2)).trans y3).trans (ex4.trans (LamX.ExtN.of x5)), fun z hz => (TX4 z hz).ext x5⟩
      · obtain ⟨v8, v9, v10, rfl, e, tb⟩ := h
        have A' := A12.ext e
        have B' := B12.ext e
        have hd' := e _ _ hd12 (fun _ z => by cases z)
        have hq' := xlst hq12 e
        obtain ⟨dA, _, _, _, _, iA, _⟩ := id A'
        obtain ⟨dB, _, _, _, _, iB, _⟩ := id B'
        refine ⟨_, rfl, _, rfl, b, dA, _, .type "dict", rfl, iA, .base (.dK hd'), notFirst_ty sD, b, .ref d, rs, _, rfl, A', okq, .inr ⟨"dict", .base (.dK hd'), sD, ⟨_, rfl, ?_⟩⟩⟩
        refine ⟨_, rfl, iteT ?_⟩
        refine ⟨_, rfl, _, rfl, b, dA, _, .type "list", rfl, iA, .base (.lst hq'), notFirst_ty sL, b, .ref q, rs, _, rfl, A', okq, .inr ⟨"list", .base (.lst hq'), sL, ⟨_, rfl, ?_⟩⟩⟩
        refine ⟨_, rfl, iteT ?_⟩
        have k0 := ok.kind u0 m0
        have mY : moreYarn u0 ∈ setRow rs (moreYarn u0) := set_has m0 rfl
        refine ⟨_, rfl, b, dA, _, rfl, iA, rfl, _, rfl, b, rs, _, u0, rfl, A', m0, k0.name, fun k1 ka1 => ⟨_, rfl, b3, dB, _, rfl, iB, rfl, _, rfl, b3, _, _, moreYarn u0, rfl, B', mY, k0.name, fun k2 ka2 => ?_⟩⟩
        obtain ⟨dk1, ik1⟩ := id ka1
        obtain ⟨dk2, ik2⟩ := id ka2
        refine ⟨k1, dk1, _, .ref C, rfl, ik1, KT.own.ty ik2, notFirst_self, k1, .ref k2, u0, rfl, ka1, k0, .inl ⟨k2, moreYarn u0, rfl, ka2, oky.kind _ mY, fun Hx sx => ?_⟩⟩
        have eY : PyData.eqv (.tuple (rowD u0)) (.tuple (rowD (moreYarn u0))) = false := by
          rw [eqv_rowD]
          exact decide_eq_false fun z => yarn_not ok m0 (z ▸ m0)
        rw [eY]
        refine ⟨_, rfl, ?_⟩
        exact k Hx (((hp12.xb e).xb (LamX.ExtN.of sx))) (XB.trans (XB.trans x01 (XB.ext (x14.trans x49))) (XB.trans x912 (XB.ext (e.trans (LamX.ExtN.of sx))))) (fun z hz => (tb z hz).ext sx)
end
end N

set_option maxHeartbeats 4000000
namespace N
open PySem L2
structure WordsOk (rs : List Row) : Prop where
  kind : ∀ r ∈ rs, KindOk r
  part : FitOk rs
  nodup : (rs.map (·.name)).Nodup
theorem ShelfOk.words {rs : List Row} (h : ShelfOk rs) : WordsOk rs := ⟨h.kind, h.part, h.nodup⟩
def row0 : Row := ⟨⟨#[]⟩, 0, 0, none, none, 0⟩
def rowNamed (rs : List Row) (x : Str) : Row := (rs.find? fun r => decide (r.name = x)).getD row0
theorem same_name {rs : List Row} (nd : (rs.map (·.name)).Nodup) {a b : Row} (ha : a ∈ rs) (hb : b ∈ rs) (e : a.name = b.name) : a = b := by
  induction rs with
  | nil => cases ha
  | cons r rs ih =>
    rw [List.map_cons, List.nodup_cons] at nd
    rcases List.mem_cons.mp ha with h1 | ha
    · rcases List.mem_cons.mp hb with h2 | hb
      · exact h1.trans h2.symm
      · refine absurd (List.mem_map_of_mem (f := (·.name)) hb) fun q => nd.1 ?_
        rw [← h1, e]
        exact q
    · rcases List.mem_cons.mp hb with h2 | hb
      · refine absurd (List.mem_map_of_mem (f := (·.name)) ha) fun q => nd.1 ?_
        rw [← h2, ← e]
        exact q
      · exact ih nd.2 ha hb
theorem rowNamed_is {rs : List Row} (nd : (rs.map (·.name)).Nodup) {a : Row} (ha : a ∈ rs) : rowNamed rs a.name = a := by
  unfold rowNamed
  cases h : rs.find? fun r => decide (r.name = a.name) with
  | none => exact absurd (List.find?_eq_none.mp h a ha) (by simp)
  | some b =>
    have hb := List.mem_of_find?_eq_some h
    have he : b.name = a.name := by simpa using List.find?_some h
    exact same_name nd hb ha he
/-- the row that a twin names -/
def twin (rs : List Row) (pl : Int) (u : Row) : Row := match twinOf pl u with
  | some x => rowNamed rs x
  | none => u
theorem twin_ok {rs : List Row} (ok : WordsOk rs) {pl : Int} (hpl : pl = 2 ∨ pl = 3) {u : Row} (hu : u ∈ rs) {x : Str} (h : twinOf pl u = some x) : twin rs pl u ∈ rs ∧ (twin rs pl u).name = x ∧ twinOf pl (twin rs pl u) = some u.name := by
  have key : ∃ v ∈ rs, v.name = x ∧ twinOf pl v = some u.name := by
    rcases hpl with rfl | rfl
    · obtain ⟨v, hv, e1, e2, _⟩ := ok.part.back u hu x h
      exact ⟨v, hv, e1, e2⟩
    · obtain ⟨v, hv, e1, e2, _⟩ := ok.part.mirror u hu x h
      exact ⟨v, hv, e1, e2⟩
  obtain ⟨v, hv, e1, e2⟩ := key
  have e : twin rs pl u = v := by
    unfold twin
    rw [h]
    show rowNamed rs x = v
    rw [← e1]
    exact rowNamed_is ok.nodup hv
  rw [e]
  exact ⟨hv, e1, e2⟩
/-- a row that has both: its back's mirror is its mirror's back -/
theorem twin_cross {rs : List Row} (ok : WordsOk rs) {u : Row} (hu : u ∈ rs) {x y : Str} (hx : twinOf 2 u = some x) (hy : twinOf 3 u = some y) : (twin rs 2 u).mirror ≠ none ∧ (twin rs 2 u).mirror = (twin rs 3 u).back := by
  obtain ⟨a, ha, b, hb, e1, e2, e3, e4⟩ := ok.part.agree u hu x y hx hy
  obtain ⟨m2, n2, _⟩ := twin_ok ok (.inl rfl) hu hx
  obtain ⟨m3, n3, _⟩ := twin_ok ok (.inr rfl) hu hy
  rw [same_name ok.nodup m2 ha (n2.trans e1.symm), same_name ok.nodup m3 hb (n3.trans e2.symm)]
  exact ⟨e3, e4⟩
/-- the turned word, as rows -/
def away (rs : List Row) (pl : Int) (us : List Row) : List Row := us.reverse.map (twin rs pl)
theorem away_word {rs : List Row} (ok : WordsOk rs) {pl : Int} (hpl : pl = 2 ∨ pl = 3) {us : List Row} (hw : ∀ u ∈ us, u ∈ rs) (h : Whole pl us) : awayOf pl us = wordV (away rs pl us) ∧ (∀ u ∈ away rs pl us, u ∈ rs) ∧ Whole pl (away rs pl us) ∧ awayOf pl (away rs pl us) = wordV us := by
  have tw : ∀ u ∈ us, ov (twinOf pl u) = V.str (twin rs pl u).name ∧ twin rs pl u ∈ rs ∧ twinOf pl (twin rs pl u) = some u.name := fun u hu => by
    cases e : twinOf pl u with
    | none => exact absurd e (h u hu)
    | some x =>
      obtain ⟨a, b, c⟩ := twin_ok ok hpl (hw u hu) e
      exact ⟨by rw [b]; rfl, a, c⟩
  refine ⟨?_, fun z hz => ?_, fun z hz => ?_, ?_⟩
  · rw [awayOf, wordV, away, List.map_map]
    exact List.map_congr_left fun u hu => (tw u (List.mem_reverse.mp hu)).1
  · obtain ⟨u, hu, rfl⟩ := List.mem_map.mp hz
    exact (tw u (List.mem_reverse.mp hu)).2.1
  · obtain ⟨u, hu, rfl⟩ := List.mem_map.mp hz
    rw [(tw u (List.mem_reverse.mp hu)).2.2]
    simp
  · rw [awayOf, away, ← List.map_reverse, List.reverse_reverse, List.map_map, wordV]
    exact List.map_congr_left fun u hu => by
      show ov (twinOf pl (twin rs pl u)) = _
      rw [(tw u hu).2.2]
      rfl
/-- turned and then seen in a mirror -/
def crossOf (rs us : List Row) : List (Option Str) := us.map fun u => (twin rs 2 u).mirror
theorem cross_word {rs : List Row} (ok : WordsOk rs) {us : List Row} (hw : ∀ u ∈ us, u ∈ rs) (h2 : Whole 2 us) (h3 : Whole 3 us) :
    Whole 3 (away rs 2 us) ∧ awayOf 3 (away rs 2 us) = (crossOf rs us).map ov ∧ Whole 2 (away rs 3 us) ∧ awayOf 2 (away rs 3 us) = (crossOf rs us).map ov ∧ (∀ o ∈ crossOf rs us, ∀ s, o = some s → NameOk s) := by
  have cr : ∀ u ∈ us, (twin rs 2 u).mirror ≠ none ∧ (twin rs 2 u).mirror = (twin rs 3 u).back ∧ twin rs 2 u ∈ rs := fun u hu => by
    cases e2 : twinOf 2 u with
    | none => exact absurd e2 (h2 u hu)
    | some x =>
      cases e3 : twinOf 3 u with
      | none => exact absurd e3 (h3 u hu)
      | some y =>
        obtain ⟨a, b⟩ := twin_cross ok (hw u hu) e2 e3
        exact ⟨a, b, (twin_ok ok (.inl rfl) (hw u hu) e2).1⟩
  refine ⟨fun z hz => ?_, ?_, fun z hz => ?_, ?_, fun o ho s hs => ?_⟩
  · obtain ⟨u, hu, rfl⟩ := List.mem_map.mp hz
    exact (cr u (List.mem_reverse.mp hu)).1
  · rw [awayOf, away, ← List.map_reverse, List.reverse_reverse, List.map_map, crossOf, List.map_map]
    rfl
  · obtain ⟨u, hu, rfl⟩ := List.mem_map.mp hz
    have q := cr u (List.mem_reverse.mp hu)
    exact fun z => q.1 (q.2.1.trans z)
  · rw [awayOf, away, ← List.map_reverse, List.reverse_reverse, List.map_map, crossOf, List.map_map]
    exact List.map_congr_left fun u hu => by
      show ov (twin rs 3 u).back = ov (twin rs 2 u).mirror
      rw [(cr u hu).2.1]
  · obtain ⟨u, hu, rfl⟩ := List.mem_map.mp ho
    exact (ok.kind _ (cr u hu).2.2).mirror s hs
/-! ### texts as data -/
theorem dp_ods {K : PySem.W.Frag} {H : Hp} : ∀ os : List (Option Str), DpAll K H (os.map ov) (os.map od)
  | [] => .nil
  | o :: os => .cons (dp_ov o) (dp_ods os)
theorem ods_fine : ∀ {os : List (Option Str)}, (∀ o ∈ os, ∀ s, o = some s → NameOk s) → PyData.canLayAll0 (os.map od) = true ∧ PyData.depthAll (os.map od) = 0 ∧ fineAll (os.map od) = true ∧ wtAll (os.map od) ≤ 100 * os.length
  | [], _ => ⟨by simp [PyData.canLayAll0], by simp [PyData.depthAll], by simp [fineAll], by simp [wtAll]⟩
  | o :: os, h => by
    obtain ⟨a, b, c, d⟩ := ods_fine (os := os) fun z hz => h z (.tail _ hz)
    cases o with
    | none =>
      refine ⟨?_, ?_, ?_, ?_⟩
      · simp [od, PyData.canLayAll0, PyData.canLay0, a]
      · simp [od, PyData.depthAll, PyData.depth, b]
      · simp [od, fineAll, fine, c]
      · simp only [List.map_cons, od, wtAll, wt, List.length_cons]
        omega
    | some s =>
      have hs := h (some s) (.head _) s rfl
      have g := hs.sign
      refine ⟨?_, ?_, ?_, ?_⟩
      · have g' : PyData.strOk s = true := g
        simp [od, PyData.canLayAll0, PyData.canLay0, a, g']
      · simp [od, PyData.depthAll, PyData.depth, b]
      · have gf : fine (.str s) = true := g
        simp only [List.map_cons, od, fineAll, c, gf, Bool.and_self]
      · have l8 := hs.2.1
        simp only [List.map_cons, od, wtAll, wt, List.length_cons]
        omega
theorem eqvAll_refl_ods : ∀ os : List (Option Str), PyData.eqvAll (os.map od) (os.map od) = true
  | [] => by simp [PyData.eqvAll]
  | o :: os => by cases o <;> simp [od, PyData.eqvAll, PyData.eqv, eqvAll_refl_ods os]

theorem twins_ok {rs us : List Row} (ok : WordsOk rs) {pl : Int} (hpl : pl = 2 ∨ pl = 3) (hw : ∀ u ∈ us, u ∈ rs) : ∀ o ∈ us.reverse.map (twinOf pl), ∀ s, o = some s → NameOk s := fun o ho s hs => by
  obtain ⟨u, hu, rfl⟩ := List.mem_map.mp ho
  have k := ok.kind _ (hw u (List.mem_reverse.mp hu))
  rcases hpl with rfl | rfl
  · exact k.back s hs
  · exact k.mirror s hs
/-- the answer as data -/
def dueD (pl : Int) (us : List Row) : PyData := match bareOf pl us with
  | u0 :: _ => .list [.str "none", .str u0.name]
  | [] => .list [.str "told", .tuple ((us.reverse.map (twinOf pl)).map od)]
def tagD (pl : Int) (us : List Row) : Str := match bareOf pl us with
  | _ :: _ => "none"
  | [] => "told"
theorem away_ovs (pl : Int) (us : List Row) : awayOf pl us = (us.reverse.map (twinOf pl)).map ov := by
  rw [awayOf, List.map_map]
  rfl
theorem DueL.same {H H' : Hp} {r : Addr} {pl : Int} {us : List Row} (h : DueL H r pl us) (s : Same H H') : DueL H' r pl us := ⟨fun u ws e => s _ _ (h.1 u ws e), fun e => let ⟨r2, a, b⟩ := h.2 e; ⟨r2, s _ _ a, s _ _ b⟩⟩
theorem due_dp {K : PySem.W.Frag} {H : Hp} {r : Addr} {pl : Int} {us : List Row} (h : DueL H r pl us) : Dp K H (.ref r) (dueD pl us) := by
  unfold dueD
  cases e : bareOf pl us with
  | cons u0 ws => exact .lst (SqL.of (h.1 u0 ws e)) (.cons (.str _) (.cons (.str _) .nil))
  | nil =>
    obtain ⟨r2, a, b⟩ := h.2 e
    rw [away_ovs] at b
    exact .lst (SqL.of a) (.cons (.str _) (.cons (.tup (SqT.of b) (dp_ods _)) .nil))
theorem due_tag {H : Hp} {r : Addr} {pl : Int} {us : List Row} (h : DueL H r pl us) : ∃ v, H r = some (.lst [.str (tagD pl us), v]) := by
  unfold tagD
  cases e : bareOf pl us with
  | cons u0 ws => exact ⟨_, h.1 u0 ws e⟩
  | nil =>
    obtain ⟨r2, a, _⟩ := h.2 e
    exact ⟨_, a⟩
theorem due_shaped {rs us : List Row} (ok : WordsOk rs) {pl : Int} (hpl : pl = 2 ∨ pl = 3) (hw : ∀ u ∈ us, u ∈ rs) : SeqAt.shaped (dueD pl us) = true := by
  have h1 : PyData.strOk ("none" : Str) = true := by decide +kernel
  have h2 : PyData.strOk ("told" : Str) = true := by decide +kernel
  unfold dueD
  cases e : bareOf pl us with
  | cons u0 ws =>
    have nu : NameOk u0.name := (ok.kind _ (hw u0 (List.mem_filter.mp (show u0 ∈ bareOf pl us by rw [e]; exact .head _)).1)).name
    have g : PyData.strOk u0.name = true := nu.sign
    simp [SeqAt.shaped, PyData.canLay0, PyData.canLayAll0, PyData.depth, PyData.depthAll, h1, g]
  | nil =>
    obtain ⟨a, b, _, _⟩ := ods_fine (twins_ok ok hpl hw)
    simp only [SeqAt.shaped, PyData.canLay0, PyData.canLayAll0, PyData.depth, PyData.depthAll, h2, a, b]
    decide
theorem due_eqv (pl : Int) (us : List Row) : PyData.eqv (dueD pl us) (dueD pl us) = true := by
  unfold dueD
  cases e : bareOf pl us with
  | cons u0 ws => simp [PyData.eqv, PyData.eqvAll]
  | nil => simp only [PyData.eqv, PyData.eqvAll, eqvAll_refl_ods, Bool.and_self]; simp
theorem tag_cases (pl : Int) (us : List Row) : (bareOf pl us = [] ∧ tagD pl us = "told") ∨ (bareOf pl us ≠ [] ∧ tagD pl us = "none") := by
  unfold tagD
  cases e : bareOf pl us with
  | cons u0 ws => exact .inr ⟨by simp, rfl⟩
  | nil => exact .inl ⟨rfl, rfl⟩
/-- ['told', a word] -/
def saidD (us : List Row) : PyData := .list [.str "told", .tuple (us.map fun u => .str u.name)]
theorem said_shaped {us : List Row} (h : ∀ u ∈ us, NameOk u.name) : SeqAt.shaped (saidD us) = true := by
  have h2 : PyData.strOk ("told" : Str) = true := by decide +kernel
  obtain ⟨a, b⟩ := names_lay us fun u hu => (h u hu).sign
  simp only [saidD, SeqAt.shaped, PyData.canLay0, PyData.canLayAll0, PyData.depth, PyData.depthAll, h2, a, b]
  decide
theorem said_eqv (us : List Row) : PyData.eqv (saidD us) (saidD us) = true := by
  simp only [saidD, PyData.eqv, PyData.eqvAll, eqv_namesA, Bool.and_self]
  simp
def crossD (os : List (Option Str)) : PyData := .list [.str "told", .tuple (os.map od)]
theorem cross_shaped {os : List (Option Str)} (h : ∀ o ∈ os, ∀ s, o = some s → NameOk s) : SeqAt.shaped (crossD os) = true := by
  have h2 : PyData.strOk ("told" : Str) = true := by decide +kernel
  obtain ⟨a, b, _, _⟩ := ods_fine h
  simp only [crossD, SeqAt.shaped, PyData.canLay0, PyData.canLayAll0, PyData.depth, PyData.depthAll, h2, a, b]
  decide
theorem cross_eqv (os : List (Option Str)) : PyData.eqv (crossD os) (crossD os) = true := by
  simp only [crossD, PyData.eqv, PyData.eqvAll, eqvAll_refl_ods, Bool.and_self]
  simp
theorem sum_rev (l : List Int) : l.reverse.sum = l.sum := by
  induction l with
  | nil => rfl
  | cons x l ih =>
    rw [List.reverse_cons, List.sum_append, ih, List.sum_cons]
    simp only [List.sum_cons, List.sum_nil]
    omega
theorem sum_away {rs us : List Row} (ok : WordsOk rs) {pl : Int} (hpl : pl = 2 ∨ pl = 3) (hw : ∀ u ∈ us, u ∈ rs) (h : Whole pl us) : sumOf Row.takes (away rs pl us) = sumOf Row.takes us := by
  unfold sumOf away
  rw [List.map_map, List.map_reverse, sum_rev]
  congr 1
  refine List.map_congr_left fun u hu => ?_
  show (twin rs pl u).takes = u.takes
  cases e : twinOf pl u with
  | none => exact absurd e (h u hu)
  | some x =>
    obtain ⟨a, b, c⟩ := twin_ok ok hpl (hw u hu) e
    rcases hpl with rfl | rfl
    · obtain ⟨v, hv, e1, e2, e3, _⟩ := ok.part.back u (hw u hu) x e
      rw [same_name ok.nodup a hv (b.trans e1.symm)]
      exact e3
    · obtain ⟨v, hv, e1, e2, e3, _⟩ := ok.part.mirror u (hw u hu) x e
      rw [same_name ok.nodup a hv (b.trans e1.symm)]
      exact e3
theorem sel_is {ms : List Row} (nd : (ms.map (·.name)).Nodup) (f : Row → Int) {u : Row} (hu : u ∈ ms) : selOf f ms u.name = f u := by
  unfold selOf
  cases h : ms.find? fun r => decide (r.name = u.name) with
  | none => exact absurd (List.find?_eq_none.mp h u hu) (by simp)
  | some b =>
    have hb := List.mem_of_find?_eq_some h
    have he : b.name = u.name := by simpa using List.find?_some h
    rw [same_name nd hb hu he]
    rfl
theorem sels {ms us : List Row} (nd : (ms.map (·.name)).Nodup) (f : Row → Int) (hw : ∀ u ∈ us, u ∈ ms) : ((us.map (·.name)).map (selOf f ms)).sum = sumOf f us := by
  rw [List.map_map]
  unfold sumOf
  congr 1
  exact List.map_congr_left fun u hu => sel_is nd f (hw u hu)
end N

set_option maxHeartbeats 4000000
namespace N
open PySem L2
def spWordRight (CB C : Addr) : Sp := fun vs H Q _ => ∃ (b d t : Addr) (rs qs ms us : List Row), vs = [.ref b, .ref d, .ref t] ∧ BookAt CB C H b rs qs ∧ ShopAt H d ms ∧ ms.Perm rs ∧ WordsOk rs ∧ H t = some (.tup (wordV us)) ∧ WordOf rs us ∧ ∀ H', Same H H' → Q (.bl true) H'
section
variable {P : Program} {w : World} {K : PySem.W.Frag} {mg : Str → Option Value} {base : Heap} {C CB : Addr} {Cs : Nat → Addr}
abbrev s__law_word_right : Stmt := top 50
theorem sc__law_word_right : FnScope ["_law_real", "_law_model", "_law_some", "_law_label", "_law_way", "_law_told_here", "_law_one", "_law_two"] ["_law_real", "_law_model", "_law_some"] (defScope s__law_word_right) := ⟨rfl, rfl, rfl, by decide +kernel, rfl, by decide +kernel, by decide +kernel⟩
theorem h_law_word_right (B : Blts mg) (U : BookT K mg CB) (F : FunAt K mg "_law_word_right" "_law_word_right" s__law_word_right) (m_is_word : HasM P w K mg base CB "is_word" 1 ["self", "value"] (spIsWord K CB C)) (m_is_wordX : HasM P w K mg base CB "is_word" 1 ["self", "value"] (spNotWord K CB C))
    (m_taken : HasMK P w K mg base CB "taken" 3 "self" "word" (spSum CB C Row.takes)) (m_made : HasMK P w K mg base CB "made" 4 "self" "word" (spSum CB C Row.makes)) (m_yarn_of : HasMK P w K mg base CB "yarn_of" 3 "self" "word" (spSum CB C Row.yarn))
    (h_law_takes : Has P w K mg base "_law_takes" 1 ["_law_book_here", "_law_word_here"] (spSums K (·.takes))) (h_law_makes : Has P w K mg base "_law_makes" 1 ["_law_book_here", "_law_word_here"] (spSums K (·.makes)))
    (h_law_told : Has P w K mg base "_law_told" 4 ["_law_real", "_law_some", "_law_way"] (spTold CB C)) (h_law_due : Has P w K mg base "_law_due" 1 ["_law_model", "_law_some", "_law_way"] spDue) :
    Has P w K mg base "_law_word_right" 6 ["_law_real", "_law_model", "_law_some"] (spWordRight CB C) := by
  refine has_of F sc__law_word_right (fun _ _ _ _ _ _ us hl => match us, hl with | [_, _, _], _ => rfl) (fun vs H Q E h => ?_) (fun f cdv A outer s H vs Q E hr h => ?_)
  · obtain ⟨_, _, _, _, _, _, _, rfl, _⟩ := h
    rfl
  · obtain ⟨b, d, t, rs, qs, ms, us, rfl, hb, hs, pm, ok, ht, hw, k⟩ := h
    refine ⟨_, (pss_cons (ps_if (PW.pt (pw_or (pt_not (pt_val (pe_hasM m_is_word U.cl (hr.mono (by decide)) (pv 0) (pa_cons (pv 2) pa_nil)))) (pw_or1 (pt_cmpR op_ne (pe_callB call_repr_bool (by rfl) B.n_repr (by decide +kernel) (pa_cons (pe_hasM m_is_wordX U.cl (hr.mono (by decide)) (pv 0) (pa_cons (pe_callTy call_list_of (by rfl) B.n_list (by decide +kernel) (pa_cons (pv 2) pa_nil)) pa_nil)) pa_nil)) pe_str (by first | exact nomark _ | rfl))))) (pss_one (ps_ret pe_bl))
        pss_nil)
      (pss_cons (ps_if (pt_cmpR (op_neD hr.units) (pe_lst (pa_cons (pe_hasM m_taken.m U.cl (hr.mono (by decide)) (pv 0) (pa_cons (pv 2) pa_nil)) (pa_cons (pe_hasM m_made.m U.cl (hr.mono (by decide)) (pv 0) (pa_cons (pv 2) pa_nil)) pa_nil))) (pe_lst (pa_cons (pe_has h_law_takes (hr.mono (by decide)) (pa_cons (pv 1) (pa_cons (pv 2) pa_nil))) (pa_cons (pe_has h_law_makes (hr.mono (by decide)) (pa_cons (pv 1) (pa_cons (pv 2) pa_nil))) pa_nil))) (by first | exact nomark _ | rfl)) (pss_one (ps_ret pe_bl))
        pss_nil)
      (pss_cons (ps_if (pt_cmpR op_ne (pe_hasM m_yarn_of.m U.cl (hr.mono (by decide)) (pv 0) (pa_cons (pv 2) pa_nil)) (pe_callB (cr_sum rfl) (by rfl) B.n_sum (by decide +kernel) (pa_cons (pe_lc (own := [("_law_label", 3)]) rfl sc__law_word_right.nd (pi_tup (pv 2)) (blkOk_by (own := [("_law_label", 3)]) (N := ["_law_real", "_law_model", "_law_some", "_law_label", "_law_way", "_law_told_here", "_law_one", "_law_two"]) (sc := defScope s__law_word_right) (by decide +kernel)) (fun _ _ _ _ _ => by exact (pg_name (i := 3) sc__law_word_right.nd rfl (Or.inl rfl))) (fun _ _ _ _ _ => by exact pts_nil) (fun _ _ _ _ _ => by exact (pe_ix (ix_tupK K) (pe_dget hr.u1 (pv 1) (pv 3) (fun _ _ => rfl)) pe_int (fun _ _ => rfl)))) pa_nil)) (by first | exact nomark _ | rfl)) (pss_one (ps_ret pe_bl))
        pss_nil)
      (pss_cons (ps_for PassesOwn.never rfl (pi_tup (pe_tup (pa_cons pe_int (pa_cons pe_int pa_nil)))) (pg_name (i := 4) sc__law_word_right.nd rfl (Or.inl rfl))
        (pss_cons (ps_set (i := 5) sc__law_word_right.nd rfl (Or.inl rfl) (pe_has h_law_told (hr.mono (by decide)) (pa_cons (pv 0) (pa_cons (pv 2) (pa_cons (pv 4) pa_nil)))))
        (pss_cons (ps_if (pt_cmpR (op_neD hr.units) (pv 5) (pe_has h_law_due (hr.mono (by decide)) (pa_cons (pv 1) (pa_cons (pv 2) (pa_cons (pv 4) pa_nil)))) (by first | exact nomark _ | rfl)) (pss_one (ps_ret pe_bl))
          pss_nil)
        (pss_cons (ps_if (PW.pt (pw_and (pt_cmpR op_eq (pe_ix ix_list (pv 5) pe_int (fun _ _ => rfl)) pe_str (by first | exact nomark _ | rfl)) (pw_and1 (pt_cmpR (op_neD hr.units) (pe_has h_law_told (hr.mono (by decide)) (pa_cons (pv 0) (pa_cons (pe_ix ix_list (pv 5) pe_int (fun _ _ => rfl)) (pa_cons (pv 4) pa_nil)))) (pe_lst (pa_cons pe_str (pa_cons (pv 2) pa_nil))) (by first | exact nomark _ | rfl))))) (pss_one (ps_ret pe_bl))
          pss_nil)
        (pss_one (ps_if (PW.pt (pw_and (pt_cmpR op_eq (pe_ix ix_list (pv 5) pe_int (fun _ _ => rfl)) pe_str (by first | exact nomark _ | rfl)) (pw_and1 (pt_cmpR op_ne (pe_hasM m_taken.m U.cl (hr.mono (by decide)) (pv 0) (pa_cons (pe_ix ix_list (pv 5) pe_int (fun _ _ => rfl)) pa_nil)) (pe_hasM m_taken.m U.cl (hr.mono (by decide)) (pv 0) (pa_cons (pv 2) pa_nil)) (by first | exact nomark _ | rfl))))) (pss_one (ps_ret pe_bl))
          pss_nil))))))
      (pss_cons (ps_par (i := 6) (j := 7) (by rfl) sc__law_word_right.nd rfl rfl (by decide) rfl rfl (pa_cons (pe_has h_law_told (hr.mono (by decide)) (pa_cons (pv 0) (pa_cons (pv 2) (pa_cons pe_int pa_nil)))) (pa_cons (pe_has h_law_told (hr.mono (by decide)) (pa_cons (pv 0) (pa_cons (pv 2) (pa_cons pe_int pa_nil)))) pa_nil)) (by rfl))
      (pss_cons (ps_if (pt_cmpR op_in_seq pe_str (pe_tup (pa_cons (pe_ix ix_list (pv 6) pe_int (fun _ _ => rfl)) (pa_cons (pe_ix ix_list (pv 7) pe_int (fun _ _ => rfl)) pa_nil))) (by first | exact nomark _ | rfl)) (pss_one (ps_ret pe_bl))
        pss_nil)
      (pss_one (ps_ret (pe_cmpR (op_eqD hr.units) (pe_has h_law_told (hr.mono (by decide)) (pa_cons (pv 0) (pa_cons (pe_ix ix_list (pv 6) pe_int (fun _ _ => rfl)) (pa_cons pe_int pa_nil)))) (pe_has h_law_told (hr.mono (by decide)) (pa_cons (pv 0) (pa_cons (pe_ix ix_list (pv 7) pe_int (fun _ _ => rfl)) (pa_cons pe_int pa_nil)))) (by first | exact nomark _ | rfl)))))))))), ?_⟩
    obtain ⟨kvs, hd, hk⟩ := id hs
    obtain ⟨dx, tb, db, bas, bbs, hbi, _⟩ := id hb
    have nd := ok.nodup
    have ndm : (ms.map (·.name)).Nodup := (pm.map _).nodup_iff.mpr nd
    have mem : ∀ u, u ∈ ms ↔ u ∈ rs := fun u => pm.mem_iff
    have hwm : WordOf ms us := ⟨hw.1, fun u hu => (mem u).mpr (hw.2 u hu)⟩
    have h240 := hw.1
    have key : ∀ x y : V, x = y → V.bl (!decide (x = y)) = V.bl false := fun x y h => by
      subst h
      simp
    have ws : wordV us = (us.map (·.name)).map V.str := by rw [wordV, List.map_map]; rfl
    have inn : ∀ x ∈ us.map (·.name), x ∈ ms.map (·.name) := fun x hx => by
      obtain ⟨u, hu, rfl⟩ := List.mem_map.mp hx
      exact List.mem_map_of_mem (hwm.2 u hu)
    -- a word, its list is none
    refine ⟨_, rfl, b, dx, _, rfl, hbi, rfl, _, rfl, b, t, rs, qs, us, rfl, hb, ht, hw, fun H1 s1 => ⟨_, rfl, iteF ?_⟩⟩
    refine ⟨_, rfl, b, dx, _, rfl, s1 _ _ hbi, rfl, _, rfl, t, _, rfl, .inr (SqT.of (s1 _ _ ht)), fun l nl => ⟨b, .ref l, rs, qs, rfl, (hb.same s1).same (Same.new nl), .inl ⟨_, .base (.lst upd_same), by decide +kernel⟩, fun H2 s2 => ⟨false, rfl, rfl, false, key _ _ rfl, iteF ?_⟩⟩⟩
    have s02 := (s1.trans (Same.new nl)).trans s2
    clear s1 nl s2
    refine next_of ?_
    dsimp only
    -- what it takes and makes
    have lenn : (us.map (·.name)).length < 1000000 := by rw [List.length_map]; omega
    have sq : ∀ {Hx : Hp}, Same H Hx → SqT K Hx t ((us.map (·.name)).map V.str) := fun {Hx} s => SqT.of (by rw [← ws]; exact s _ _ ht)
    refine ⟨_, rfl, b, dx, _, rfl, s02 _ _ hbi, rfl, _, rfl, b, t, rs, qs, us, rfl, hb.same s02, s02 _ _ ht, hw, fun H3 s3 => ⟨_, rfl, b, dx, _, rfl, (s02.trans s3) _ _ hbi, rfl, _, rfl, b, t, rs, qs, us, rfl, hb.same (s02.trans s3), (s02.trans s3) _ _ ht, hw, fun H4 s4 => ⟨(by show 2 ≤ sizeLine; decide), fun L1 nL1 => ?_⟩⟩⟩
    have s04 := ((s02.trans s3).trans s4).trans (Same.new (o := .lst [.int (sumOf Row.takes us), .int (sumOf Row.makes us)]) nL1)
    have f1 : (upd H4 L1 (.lst [.int (sumOf Row.takes us), .int (sumOf Row.makes us)])) L1 = some (.lst [.int (sumOf Row.takes us), .int (sumOf Row.makes us)]) := upd_same
    clear s3 s4
    generalize upd H4 L1 (.lst [.int (sumOf Row.takes us), .int (sumOf Row.makes us)]) = H5 at s04 f1 ⊢
    refine ⟨_, rfl, _, rfl, d, t, kvs, ms, us.map (·.name), rfl, s04 _ _ hd, Same.kv s04 hk, sq s04, lenn, inn, fun H6 s6 => ?_⟩
    rw [sels ndm _ hwm.2]
    have s46 := s04.trans s6
    refine ⟨_, rfl, _, rfl, d, t, kvs, ms, us.map (·.name), rfl, s46 _ _ hd, Same.kv s46 hk, sq s46, lenn, inn, fun H7 s7 => ?_⟩
    rw [sels ndm _ hwm.2]
    refine ⟨(by show 2 ≤ sizeLine; decide), fun L2 nL2 => ?_⟩
    have s57 := (s6.trans s7).trans (Same.new (o := .lst [.int (sumOf Row.takes us), .int (sumOf Row.makes us)]) nL2)
    refine ⟨.list [.int (sumOf Row.takes us), .int (sumOf Row.makes us)], .list [.int (sumOf Row.takes us), .int (sumOf Row.makes us)], .lst (SqL.of (s57 _ _ f1)) (.cons (.int _) (.cons (.int _) .nil)), .lst (SqL.of upd_same) (.cons (.int _) (.cons (.int _) .nil)), (by simp [SeqAt.shaped, PyData.canLay0, PyData.canLayAll0, PyData.depth, PyData.depthAll]), (by simp [SeqAt.shaped, PyData.canLay0, PyData.canLayAll0, PyData.depth, PyData.depthAll]), _, rfl, ?_⟩
    rw [show PyData.eqv (.list [.int (sumOf Row.takes us), .int (sumOf Row.makes us)]) (.list [.int (sumOf Row.takes us), .int (sumOf Row.makes us)]) = true by simp [PyData.eqv, PyData.eqvAll]]
    refine iteF ?_
    have s08 := s04.trans s57
    clear s46 s57 s6 s7 s04 f1
    generalize upd H7 L2 _ = H8 at s08 ⊢
    refine next_of ?_
    dsimp only
    -- yarn
    refine ⟨_, rfl, b, dx, _, rfl, s08 _ _ hbi, rfl, _, rfl, b, t, rs, qs, us, rfl, hb.same s08, s08 _ _ ht, hw, fun H9 s9 => ?_⟩
    have s09 := s08.trans s9
    have wl : (wordV us).length = us.length := List.length_map _
    refine ⟨_, rfl, t, rfl, ⟨_, SqT.of (s09 _ _ ht)⟩, fun D nD => lc_map walk_tup (gAt us fun r => .int r.yarn) nD (by rw [wl]; omega) (fun H' s' => SqT.of (s' _ _ (s09 _ _ ht))) ?_ ?_⟩
    · rintro i x Ha Hb hi sa ⟨rfl, hx⟩ R hR
      rw [wordV, List.getElem?_map] at hx
      cases hu : us[i]? with
      | none => rw [hu] at hx; cases hx
      | some u =>
        rw [hu] at hx
        cases (Option.some.inj hx : V.str u.name = x)
        obtain ⟨a, g, ra⟩ := shop_get hk ndm u (hwm.2 u (List.mem_of_getElem? hu))
        have q := hR Hb (Same.refl _)
        rw [gAt, hu] at q
        have sx := s09.trans sa
        exact ⟨rfl, _, rfl, _, rfl, d, .ref a, rfl, .inl ⟨kvs, .inr u.name, .inl (sx _ _ hd), rfl, g.symm⟩, a, _, 4, _, rfl, rfl, SqT.of (sx _ _ ra), rfl, q⟩
    intro Ha sa hD
    rw [wl, gAt_all] at hD
    refine ⟨D, us.map Row.yarn, rfl, SqL.of (by rw [List.map_map]; exact hD), ?_⟩
    refine ⟨rfl, false, key _ _ rfl, iteF ?_⟩
    have s0a := s09.trans sa
    clear hD
    refine next_of ?_
    dsimp only
    -- each way
    have nok : ∀ u ∈ us, NameOk u.name := fun u hu => (ok.kind u (hw.2 u hu)).name
    have said : ∀ {pl : Int}, (pl = 2 ∨ pl = 3) → Whole pl us → ∀ {Hx : Hp} {r : Addr}, DueL Hx r pl (away rs pl us) → Dp K Hx (.ref r) (saidD us) := fun {pl} hpl wh {Hx r} due => by
      obtain ⟨a1, a2, a3, a4⟩ := away_word ok hpl hw.2 wh
      obtain ⟨r2, e1, e2⟩ := due.2 (bare_nil.mpr a3)
      rw [a4] at e2
      exact .lst (SqL.of e1) (.cons (.str _) (.cons (.tup (SqT.of e2) (dp_names us)) .nil))
    have awayW : ∀ {pl : Int}, (pl = 2 ∨ pl = 3) → Whole pl us → WordOf rs (away rs pl us) := fun {pl} hpl wh => ⟨by unfold away; rw [List.length_map, List.length_reverse]; exact h240, (away_word ok hpl hw.2 wh).2.1⟩
    refine ⟨(by show 2 ≤ sizeLine; decide), fun tw ntw => ?_⟩
    have stw : Same Ha (upd Ha tw (.tup [.int 2, .int 3])) := Same.new ntw
    have ftw : (upd Ha tw (.tup [.int 2, .int 3])) tw = some (.tup [.int 2, .int 3]) := upd_same
    generalize upd Ha tw (.tup [V.int 2, .int 3]) = HB at stw ftw ⊢
    have s0B := s0a.trans stw
    refine ⟨tw, rfl, ⟨_, SqT.of ftw⟩, for_tup (K := K) (a := tw) (xs := [.int 2, .int 3]) (fun i σ H' => ∃ v4 v5 : Option V, σ = [some (.ref b), some (.ref d), some (.ref t), none, v4, v5, none, none] ∧ Same HB H') ⟨none, none, rfl, Same.refl _⟩ (fun i σ H' _ h => ?_) (fun i x σ H' hx h => ?_) (fun σ H' h => ?_)⟩
    · obtain ⟨_, _, _, e⟩ := h
      exact SqT.of (e _ _ ftw)
    · obtain ⟨v4, v5, rfl, e⟩ := h
      obtain ⟨pl, rfl, hpl⟩ : ∃ pl, x = V.int pl ∧ (pl = 2 ∨ pl = 3) := by
        match i, hx with
        | 0, hx => exact ⟨2, (Option.some.inj hx).symm, .inl rfl⟩
        | 1, hx => exact ⟨3, (Option.some.inj hx).symm, .inr rfl⟩
        | n + 2, hx => simp at hx
      have s1 := s0B.trans e
      have dsh := due_shaped ok hpl hw.2
      refine ⟨_, rfl, _, rfl, _, rfl, b, t, rs, qs, us, pl, rfl, hpl, hb.same s1, s1 _ _ ht, hw, fun r Hr nr due sr => ?_⟩
      refine next_of ?_
      dsimp only
      have s2 := s1.trans sr
      refine ⟨_, rfl, _, rfl, _, rfl, _, rfl, d, t, ms, us, pl, rfl, hpl, ⟨_, s2 _ _ hd, Same.kv s2 hk⟩, ndm, s2 _ _ ht, hwm, fun r2 Hr2 nr2 due2 sr2 => ⟨dueD pl us, dueD pl us, due_dp (due.same sr2), due_dp due2, dsh, dsh, _, rfl, ?_⟩⟩
      rw [due_eqv]
      refine iteF ?_
      refine next_of ?_
      dsimp only
      have s3 := s2.trans sr2
      have due3 := due.same sr2
      clear due due2
      rcases tag_cases pl us with ⟨bn, _⟩ | ⟨bn, _⟩
      · have wh := bare_nil.mp bn
        obtain ⟨w, e1, e2⟩ := due3.2 bn
        obtain ⟨a1, a2, a3, a4⟩ := away_word ok hpl hw.2 wh
        rw [a1] at e2
        have aw := awayW hpl wh
        refine ⟨_, rfl, r, _, 0, _, rfl, rfl, SqL.of e1, rfl, rfl, _, rfl, ite2 (fun _ => ?_) (fun c => absurd (decide_eq_true rfl) c)⟩
        refine ⟨_, rfl, _, rfl, r, _, 1, _, rfl, rfl, SqL.of e1, rfl, _, rfl, b, w, rs, qs, away rs pl us, pl, rfl, hpl, hb.same s3, e2, aw, fun r4 H4 n4 due4 s4 => ⟨_, rfl, (by show 2 ≤ sizeLine; decide), fun z nz => ?_⟩⟩
        have sz : Same H4 (upd H4 z (.lst [.str "told", .ref t])) := Same.new nz
        have s5 := (s3.trans s4).trans sz
        refine ⟨saidD us, saidD us, said hpl wh (due4.same sz), .lst (SqL.of upd_same) (.cons (.str _) (.cons (.tup (SqT.of (s5 _ _ ht)) (dp_names us)) .nil)), said_shaped nok, said_shaped nok, _, rfl, ?_⟩
        rw [said_eqv]
        refine iteF ?_
        refine next_of ?_
        dsimp only
        have e1' := (s4.trans sz) _ _ e1
        have e2' := (s4.trans sz) _ _ e2
        refine ⟨_, rfl, r, _, 0, _, rfl, rfl, SqL.of e1', rfl, rfl, _, rfl, ite2 (fun _ => ?_) (fun c => absurd (decide_eq_true rfl) c)⟩
        refine ⟨_, rfl, b, dx, _, rfl, s5 _ _ hbi, rfl, _, rfl, r, _, 1, _, rfl, rfl, SqL.of e1', rfl, b, w, rs, qs, away rs pl us, rfl, hb.same s5, e2', aw, fun H6 s6 => ⟨_, rfl, b, dx, _, rfl, (s5.trans s6) _ _ hbi, rfl, _, rfl, b, t, rs, qs, us, rfl, hb.same (s5.trans s6), (s5.trans s6) _ _ ht, hw, fun H7 s7 => ⟨rfl, false, key _ _ (by rw [sum_away ok hpl hw.2 wh]), iteF ?_⟩⟩⟩
        exact ⟨_, _, rfl, e.trans (sr.trans (sr2.trans ((s4.trans sz).trans (s6.trans s7))))⟩
      · obtain ⟨u0, ws0, eb⟩ : ∃ u0 ws, bareOf pl us = u0 :: ws := by
          cases z : bareOf pl us with
          | nil => exact absurd z bn
          | cons u ws => exact ⟨u, ws, rfl⟩
        have e1 := due3.1 u0 ws0 eb
        refine ⟨_, rfl, r, _, 0, _, rfl, rfl, SqL.of e1, rfl, rfl, _, rfl, ite2 (fun c => absurd c (by decide)) (fun _ => ?_)⟩
        refine next_of ?_
        dsimp only
        refine ⟨_, rfl, r, _, 0, _, rfl, rfl, SqL.of e1, rfl, rfl, _, rfl, ite2 (fun c => absurd c (by decide)) (fun _ => ?_)⟩
        exact ⟨_, _, rfl, e.trans (sr.trans sr2)⟩
    · obtain ⟨v4, v5, rfl, e⟩ := h
      have s1 := s0B.trans e
      refine ⟨_, rfl, _, rfl, b, t, rs, qs, us, 2, rfl, .inl rfl, hb.same s1, s1 _ _ ht, hw, fun r2 H2 n2 due2 s2 => ⟨_, rfl, _, rfl, b, t, rs, qs, us, 3, rfl, .inr rfl, hb.same (s1.trans s2), (s1.trans s2) _ _ ht, hw, fun r3 H3 n3 due3 s3 => ⟨_, _, rfl, ?_⟩⟩⟩
      dsimp only
      have d2 := due2.same s3
      obtain ⟨x2, t2⟩ := due_tag d2
      obtain ⟨x3, t3⟩ := due_tag due3
      have s13 := (s1.trans s2).trans s3
      refine ⟨_, rfl, r2, _, 0, _, rfl, rfl, SqL.of t2, rfl, _, rfl, r3, _, 0, _, rfl, rfl, SqL.of t3, rfl, (by show 2 ≤ sizeLine; decide), fun z nz => ⟨z, _, rfl, .inr (SqT.of upd_same), rfl, rfl, _, rfl, ite2 (fun c => ?_) (fun c => ?_)⟩⟩
      · exact k _ (s13.trans (Same.new nz))
      · have sz : Same H3 (upd H3 z (.tup [.str (tagD 2 us), .str (tagD 3 us)])) := Same.new nz
        rcases tag_cases 2 us with ⟨b2, g2⟩ | ⟨_, g2⟩
        · rcases tag_cases 3 us with ⟨b3, g3⟩ | ⟨_, g3⟩
          · have w2 := bare_nil.mp b2
            have w3 := bare_nil.mp b3
            obtain ⟨p2, e1, e2⟩ := d2.2 b2
            obtain ⟨p3, f1, f2⟩ := due3.2 b3
            rw [(away_word ok (.inl rfl) hw.2 w2).1] at e2
            rw [(away_word ok (.inr rfl) hw.2 w3).1] at f2
            obtain ⟨c1, c2, c3, c4, c5⟩ := cross_word ok hw.2 w2 w3
            have sz3 := s13.trans sz
            refine next_of ?_
            dsimp only
            refine ⟨_, rfl, _, rfl, r2, _, 1, _, rfl, rfl, SqL.of (sz _ _ e1), rfl, b, p2, rs, qs, away rs 2 us, 3, rfl, .inr rfl, hb.same sz3, sz _ _ e2, awayW (.inl rfl) w2, fun ra Ka na dua ka => ⟨_, rfl, _, rfl, r3, _, 1, _, rfl, rfl, SqL.of ((sz.trans ka) _ _ f1), rfl, b, p3, rs, qs, away rs 3 us, 2, rfl, .inl rfl, hb.same (sz3.trans ka), (sz.trans ka) _ _ f2, awayW (.inr rfl) w3, fun rb Kb nb dub kb => ?_⟩⟩
            have crossP : ∀ {r : Addr} {pl : Int} {vs : List Row}, Whole pl vs → awayOf pl vs = (crossOf rs us).map ov → DueL Kb r pl vs → Dp K Kb (.ref r) (crossD (crossOf rs us)) := fun {r pl vs} wv ev du => by
              obtain ⟨q, h1, h2⟩ := du.2 (bare_nil.mpr wv)
              rw [ev] at h2
              exact .lst (SqL.of h1) (.cons (.str _) (.cons (.tup (SqT.of h2) (dp_ods _)) .nil))
            refine ⟨crossD (crossOf rs us), crossD (crossOf rs us), crossP c1 c2 (dua.same kb), crossP c3 c4 dub, cross_shaped c5, cross_shaped c5, ?_⟩
            rw [cross_eqv]
            exact k _ ((sz3.trans ka).trans kb)
          · exact absurd (show inV (.str "none") [.str (tagD 2 us), .str (tagD 3 us)] = true by rw [g2, g3]; decide +kernel) c
        · exact absurd (show inV (.str "none") [.str (tagD 2 us), .str (tagD 3 us)] = true by rw [g2]; simp [inV, eqV]) c
end
end N

set_option maxHeartbeats 4000000
namespace N
open PySem L2
def spLikeP (CB C : Addr) : Sp := fun vs H Q _ => ∃ (b d : Addr) (rs ms : List Row), vs = [.ref b, .ref d] ∧ BookAt CB C H b rs (rowsSorted rs) ∧ ShopAt H d ms ∧ ms.Perm rs ∧ (∀ u ∈ rs, KindOk u) ∧ rs.length ≤ 24 ∧ rs ≠ [] ∧ ("nokind" : Str) ∉ rs.map (·.name) ∧ ∀ H', Same H H' → Q (.bl true) H'
section
variable {P : Program} {w : World} {K : PySem.W.Frag} {mg : Str → Option Value} {base : Heap} {C CB : Addr} {Cs : Nat → Addr}
theorem h_law_is_likeP (B : Blts mg) (U : BookT K mg CB) (KT : KindT K mg C Cs) (F : FunAt K mg "_law_is_like" "_law_is_like" s__law_is_like) (m_names : HasM P w K mg base CB "names" 3 ["self"] (spNames CB C)) (m_kind : HasMK P w K mg base CB "kind" 2 "self" "name" (spKindNamed CB C))
    (m_contains : HasM P w K mg base CB "__contains__" 1 ["self", "x"] (spInV K CB C)) (m_len : HasM P w K mg base CB "__len__" 1 ["self"] (spLen CB C)) (p1 : PK' P w K mg base C "name" fun r => .str r.name) (h_law_row : Has P w K mg base "_law_row" 3 ["_law_kind"] (spRow C)) :
    Has P w K mg base "_law_is_like" 4 ["_law_real", "_law_model"] (spLikeP CB C) := by
  refine has_of F sc__law_is_like (fun _ _ _ _ _ _ us hl => match us, hl with | [_, _], _ => rfl) (fun vs H Q E h => ?_) (fun f cdv A outer s H vs Q E hr h => ?_)
  · obtain ⟨b, d, rs, ms, rfl, _⟩ := h
    rfl
  · obtain ⟨b, d, rs, ms, rfl, hb, hs, pms, ok, l24, ne, nk, k⟩ := h
    refine ⟨_, (pss_cons (ps_set (i := 2) sc__law_is_like.nd rfl (Or.inl rfl) (pe_callB (call_sortedD rfl) (by rfl) B.n_sorted (by decide +kernel) (pa_cons (pv 1) pa_nil)))
      (pss_cons (ps_if (PW.pt (pw_or (pt_cmpR (op_neD hr.units) (pe_hasM0 m_names U.cl (hr.mono (by decide)) (pv 0)) (pv 2) (by first | exact nomark _ | rfl)) (pw_or (pt_cmpR (op_neD hr.units) (pe_lc (own := [("_law_one", 3)]) rfl sc__law_is_like.nd (pi_list (pv 2)) (blkOk_by (own := [("_law_one", 3)]) (N := ["_law_real", "_law_model", "_law_labels", "_law_one", "_law_told_here", "_law_label", "_law_odd"]) (sc := defScope s__law_is_like) (by decide +kernel)) (fun _ _ _ _ _ => by exact (pg_name (i := 3) sc__law_is_like.nd rfl (Or.inl rfl))) (fun _ _ _ _ _ => by exact pts_nil) (fun _ _ _ _ _ => by exact (pe_hasP p1 KT.cl (hr.mono (by decide)) (pe_hasM m_kind.m U.cl (hr.mono (by decide)) (pv 0) (pa_cons (pv 3) pa_nil))))) (pv 2) (by first | exact nomark _ | rfl)) (pw_or1 (pt_cmpR op_ne (pe_callB (call_lenM m_len (hr.mono (by decide))) (by rfl) B.n_len PySem.boot_len (pa_cons (pv 0) pa_nil)) (pe_callB call_len_seq (by rfl) B.n_len PySem.boot_len (pa_cons (pv 2) pa_nil)) (by first | exact nomark _ | rfl)))))) (pss_one (ps_ret pe_bl))
        pss_nil)
      (pss_cons (ps_set (i := 4) sc__law_is_like.nd rfl (Or.inl rfl) (pe_hasM0 m_names U.cl (hr.mono (by decide)) (pv 0)))
      (pss_cons (ps_expr (pe_bm PySem.F.plainAttrs_list PySem.F.slot_list_append PySem.F.type_list_append mt_append (pv 4) (pa_cons pe_str pa_nil)))
      (pss_cons (ps_if (PW.pt (pw_or (pt_cmpR (op_neD hr.units) (pe_hasM0 m_names U.cl (hr.mono (by decide)) (pv 0)) (pv 2) (by first | exact nomark _ | rfl)) (pw_or1 (pt_not (pt_val (pe_callB (cr_all rfl) (by rfl) B.n_all (by decide +kernel) (pa_cons (pe_lc (own := [("_law_label", 5)]) rfl sc__law_is_like.nd (pi_list (pv 2)) (blkOk_by (own := [("_law_label", 5)]) (N := ["_law_real", "_law_model", "_law_labels", "_law_one", "_law_told_here", "_law_label", "_law_odd"]) (sc := defScope s__law_is_like) (by decide +kernel)) (fun _ _ _ _ _ => by exact (pg_name (i := 5) sc__law_is_like.nd rfl (Or.inl rfl))) (fun _ _ _ _ _ => by exact pts_nil) (fun _ _ _ _ _ => by exact (pe_cmpR (op_inM m_contains (hr.mono (by decide))) (pv 5) (pv 0) (by first | exact nomark _ | rfl)))) pa_nil))))))) (pss_one (ps_ret pe_bl))
        pss_nil)
      (pss_cons (ps_for PassesOwn.never rfl (pi_list (pe_lst (pa_cons pe_non (pa_cons pe_int (pa_cons pe_bl (pa_cons pe_str (pa_cons pe_str (pa_cons pe_str (pa_cons (pv 2) (pa_cons (pe_tup (pa_cons (pe_ix ix_list (pv 2) pe_int (fun _ _ => rfl)) pa_nil)) (pa_cons pe_dnewK (pa_cons (pe_lst (pa_cons pe_str pa_nil)) pa_nil)))))))))))) (pg_name (i := 6) sc__law_is_like.nd rfl (Or.inl rfl))
        (pss_one (ps_if (pt_cmpR op_ne (pe_callB call_repr_bool (by rfl) B.n_repr (by decide +kernel) (pa_cons (pe_cmpR (op_inM m_contains (hr.mono (by decide))) (pv 6) (pv 0) (by first | exact nomark _ | rfl)) pa_nil)) pe_str (by first | exact nomark _ | rfl)) (pss_one (ps_ret pe_bl))
          pss_nil)))
      (pss_one (ps_ret (pe_cmpR (op_eqD hr.units) (pe_lc (own := [("_law_label", 5)]) rfl sc__law_is_like.nd (pi_list (pv 2)) (blkOk_by (own := [("_law_label", 5)]) (N := ["_law_real", "_law_model", "_law_labels", "_law_one", "_law_told_here", "_law_label", "_law_odd"]) (sc := defScope s__law_is_like) (by decide +kernel)) (fun _ _ _ _ _ => by exact (pg_name (i := 5) sc__law_is_like.nd rfl (Or.inl rfl))) (fun _ _ _ _ _ => by exact pts_nil) (fun _ _ _ _ _ => by exact (pe_has h_law_row (hr.mono (by decide)) (pa_cons (pe_hasM m_kind.m U.cl (hr.mono (by decide)) (pv 0) (pa_cons (pv 5) pa_nil)) pa_nil)))) (pe_lc (own := [("_law_label", 5)]) rfl sc__law_is_like.nd (pi_list (pv 2)) (blkOk_by (own := [("_law_label", 5)]) (N := ["_law_real", "_law_model", "_law_labels", "_law_one", "_law_told_here", "_law_label", "_law_odd"]) (sc := defScope s__law_is_like) (by decide +kernel)) (fun _ _ _ _ _ => by exact (pg_name (i := 5) sc__law_is_like.nd rfl (Or.inl rfl))) (fun _ _ _ _ _ => by exact pts_nil) (fun _ _ _ _ _ => by exact (pe_dget hr.u1 (pv 1) (pv 5) (fun _ _ => rfl)))) (by first | exact nomark _ | rfl)))))))))), ?_⟩
    obtain ⟨kvs, hd, hk⟩ := id hs
    obtain ⟨dx, tb, db, as, bs, hbi, _, _, _, _, nd⟩ := id hb
    have lq : (rowsSorted rs).length = rs.length := by have := (rowsSorted_names rs).1.length_eq; simpa using this
    have ndm : (ms.map (·.name)).Nodup := (pms.map _).nodup_iff.mpr nd
    have lms := pms.length_eq
    refine ⟨_, rfl, d, kvs, ms.map (·.name), rfl, .inl hd, ShopAt.keys hk, by rw [List.length_map]; omega, fun names nl pm so nn => ?_⟩
    have en := sorted_are pm so
    rw [sorted_perm pms nd] at en
    subst en
    have s1 : Same H (upd H nl (.lst (((rowsSorted rs).map (·.name)).map V.str))) := Same.new nn
    generalize hH1 : upd H nl (.lst (((rowsSorted rs).map (·.name)).map V.str)) = H1 at s1 ⊢
    have hn1 : H1 nl = some (.lst ((rowsSorted rs).map fun u => .str u.name)) := by rw [← hH1, upd_same, List.map_map]; rfl
    refine next_of ?_
    dsimp only
    have okq : ∀ u ∈ rowsSorted rs, NameOk u.name := fun u hu => (ok u ((List.mergeSort_perm _ _).mem_iff.mp hu)).name
    refine ⟨_, rfl, b, dx, _, rfl, s1 _ _ hbi, rfl, b, rs, _, rfl, hb.same s1, by omega, fun q H2 nq hq s2 => ⟨_, rfl, _, _, .lst (SqL.of hq) (dp_names _), .lst (SqL.of (s2 _ _ hn1)) (dp_names _), names_shaped okq, names_shaped okq, _, rfl, ?_⟩⟩
    rw [eqv_namesL]
    refine iteF ?_
    have s02 := s1.trans s2
    have hn2 := s2 _ _ hn1
    have wl : ((rowsSorted rs).map fun u => V.str u.name).length = (rowsSorted rs).length := List.length_map _
    refine ⟨_, rfl, nl, rfl, ⟨_, SqL.of hn2⟩, fun D nD => lc_map walk_list (gAt (rowsSorted rs) fun r => .str r.name) nD (by rw [wl]; omega) (fun H' s' => SqL.of (s' _ _ hn2)) ?_ ?_⟩
    · rintro i x H3 H4 hi s3 ⟨rfl, hx⟩ R hR
      rw [List.getElem?_map] at hx
      cases hu : (rowsSorted rs)[i]? with
      | none => rw [hu] at hx; cases hx
      | some u =>
        rw [hu] at hx
        cases (Option.some.inj hx : V.str u.name = x)
        have s04 := s02.trans s3
        have mu := (List.mergeSort_perm _ _).mem_iff.mp (List.mem_of_getElem? hu)
        refine ⟨rfl, _, rfl, b, dx, _, rfl, s04 _ _ hbi, rfl, _, rfl, b, rs, _, u, rfl, hb.same s04, mu, (ok u mu).name, fun o ko => ?_⟩
        obtain ⟨dO, ho⟩ := id ko
        have qq := hR H4 (Same.refl _)
        rw [gAt, hu] at qq
        exact ⟨o, dO, _, rfl, ho, o, u, rfl, ko, qq⟩
    · intro H3 s3 hD
      rw [wl, gAt_all] at hD
      have s03 := s02.trans s3
      refine ⟨_, rfl, _, _, .lst (SqL.of hD) (dp_names _), .lst (SqL.of (s3 _ _ hn2)) (dp_names _), names_shaped okq, names_shaped okq, _, rfl, ?_⟩
      rw [eqv_namesL]
      refine iteF ?_
      have key : ∀ x y : V, x = y → V.bl (!decide (x = y)) = V.bl false := fun x y h => by
        subst h
        simp
      refine ⟨_, rfl, b, dx, _, rfl, s03 _ _ hbi, b, rs, _, rfl, hb.same s03, by omega, _, rfl, by omega, by omega, _, rfl, nl, _, rfl, .inl (SqL.of (s3 _ _ hn2)), rfl, false, key _ _ (by rw [wl]), iteF ?_⟩
      refine next_of ?_
      dsimp only
      refine ⟨_, rfl, b, dx, _, rfl, s03 _ _ hbi, rfl, b, rs, _, rfl, hb.same s03, by omega, fun q2 H4 nq2 hq2 s4 => ?_⟩
      refine next_of ?_
      dsimp only
      refine ⟨_, rfl, .inl ⟨rfl, _, SqL.of hq2⟩, q2, _, _, rfl, rfl, hq2, by rw [wl, sizeLine_eq]; omega, ?_⟩
      have s05 := s03.trans (s4.mut (o := .lst (((rowsSorted rs).map fun r => V.str r.name) ++ [V.str "more"])) nq2)
      have hn5 := (s3.trans (s4.mut (o := .lst (((rowsSorted rs).map fun r => V.str r.name) ++ [V.str "more"])) nq2)) _ _ hn2
      generalize upd H4 q2 (.lst (((rowsSorted rs).map fun r => V.str r.name) ++ [V.str "more"])) = H5 at s05 hn5 ⊢
      refine next_of ?_
      dsimp only
      refine ⟨_, rfl, b, dx, _, rfl, s05 _ _ hbi, rfl, b, rs, _, rfl, hb.same s05, by omega, fun q6 H6 nq6 hq6 s6 => ⟨_, rfl, _, _, .lst (SqL.of hq6) (dp_names _), .lst (SqL.of (s6 _ _ hn5)) (dp_names _), names_shaped okq, names_shaped okq, _, rfl, ?_⟩⟩
      rw [eqv_namesL]
      refine iteF ?_
      have s06 := s05.trans s6
      have hn6 := s6 _ _ hn5
      refine ⟨_, rfl, nl, rfl, ⟨_, SqL.of hn6⟩, fun D2 nD2 => lc_map walk_list (fun _ => .bl true) nD2 (by rw [wl]; omega) (fun H' s' => SqL.of (s' _ _ hn6)) ?_ ?_⟩
      · rintro i x H7 H8 hi s7 ⟨rfl, hx⟩ R hR
        rw [List.getElem?_map] at hx
        cases hu : (rowsSorted rs)[i]? with
        | none => rw [hu] at hx; cases hx
        | some u =>
          rw [hu] at hx
          cases (Option.some.inj hx : V.str u.name = x)
          have s08 := s06.trans s7
          have mu := (List.mergeSort_perm _ _).mem_iff.mp (List.mem_of_getElem? hu)
          have hin : inBook rs (.str u.name) = true := decide_eq_true (List.mem_map_of_mem mu)
          refine ⟨rfl, _, rfl, _, rfl, b, dx, _, rfl, s08 _ _ hbi, b, .str u.name, rs, _, rfl, hb.same s08, .inl ⟨_, rfl⟩, ?_⟩
          rw [hin]
          exact ⟨true, rfl, hR _ (Same.refl _)⟩
      · intro H7 s7 hD2
        refine ⟨D2, (List.range ((rowsSorted rs).map fun u => V.str u.name).length).map fun _ => true, rfl, SqL.of (by rw [List.map_map]; exact hD2), ?_⟩
        rw [show ((List.range ((rowsSorted rs).map fun u => V.str u.name).length).map fun _ => true).all id = true by simp]
        have s07 := s06.trans s7
        have hn7 := s7 _ _ hn6
        refine ⟨_, rfl, iteF ?_⟩
        refine next_of ?_
        dsimp only
        obtain ⟨u0, ws0, e0⟩ : ∃ u0 ws0, rowsSorted rs = u0 :: ws0 := by
          cases e : rowsSorted rs with
          | nil =>
            rw [e] at lq
            exact absurd (List.length_eq_zero_iff.mp lq.symm) ne
          | cons u ws => exact ⟨u, ws, rfl⟩
        have h0 : atI ((rowsSorted rs).map fun u => V.str u.name) 0 = some (.str u0.name) := by
          rw [e0]
          exact atI_nat (j := 0) (v := V.str u0.name) rfl
        refine ⟨_, rfl, _, rfl, nl, _, 0, _, rfl, rfl, SqL.of hn7, h0, (by show 1 ≤ sizeLine; decide), fun q8 nq8 q9 nq9 => ⟨(by show 1 ≤ sizeLine; decide), fun qa nqa => ⟨(by show 10 ≤ sizeLine; decide), fun qb nqb => ?_⟩⟩⟩
        have sa : Same H7 (upd (upd (upd H7 q8 (.tup [V.str u0.name])) q9 (.dK [])) qa (.lst [V.str "k"])) := ((Same.new nq8).trans (Same.new nq9)).trans (Same.new nqa)
        have g8 := ((Same.new (o := .dK []) nq9).trans (Same.new (o := .lst [V.str "k"]) nqa)) _ _ upd_same
        have g9 := (Same.new (o := .lst [V.str "k"]) nqa) _ _ upd_same
        have ga : (upd (upd (upd H7 q8 (.tup [V.str u0.name])) q9 (.dK [])) qa (.lst [V.str "k"])) qa = some (.lst [V.str "k"]) := upd_same
        generalize upd (upd (upd H7 q8 (.tup [V.str u0.name])) q9 (.dK [])) qa (.lst [V.str "k"]) = Ha at sa g8 g9 ga nqb ⊢
        have sb : Same Ha (upd Ha qb (.lst [V.non, .int 0, .bl true, .str "", .str "nokind", .str "K", .ref nl, .ref q8, .ref q9, .ref qa])) := Same.new nqb
        have gb : (upd Ha qb (.lst [V.non, .int 0, .bl true, .str "", .str "nokind", .str "K", .ref nl, .ref q8, .ref q9, .ref qa])) qb = some (.lst [V.non, .int 0, .bl true, .str "", .str "nokind", .str "K", .ref nl, .ref q8, .ref q9, .ref qa]) := upd_same
        generalize upd Ha qb (.lst [V.non, .int 0, .bl true, .str "", .str "nokind", .str "K", .ref nl, .ref q8, .ref q9, .ref qa]) = Hb at sb gb ⊢
        have s0b := s07.trans (sa.trans sb)
        have gl := (sa.trans sb) _ _ hn7
        replace g8 := sb _ _ g8
        replace g9 := sb _ _ g9
        replace ga := sb _ _ ga
        have nin : ∀ z : Str, ¬ NameOk z → inBook rs (.str z) = false := fun z hz => decide_eq_false fun hm => by
          obtain ⟨u, hu, e⟩ := List.mem_map.mp hm
          exact hz (e ▸ (ok u hu).name)
        have good : ∀ x ∈ [V.non, .int 0, .bl true, .str "", .str "nokind", .str "K", .ref nl, .ref q8, .ref q9, .ref qa], (∃ z : Str, x = .str z ∧ inBook rs x = false) ∨ ∀ H', Same Hb H' → ∃ T, TyX K H' x (.type T) ∧ kitB T "str" = some false ∧ ∀ z, x ≠ .str z := fun x hx => by
          simp only [List.mem_cons, List.mem_nil_iff, or_false] at hx
          rcases hx with rfl | rfl | rfl | rfl | rfl | rfl | rfl | rfl | rfl | rfl
          · exact .inr fun H' _ => inV_odd .non (fun z e => by cases e)
          · exact .inr fun H' _ => inV_odd (.int 0 (by decide)) (fun z e => by cases e)
          · exact .inr fun H' _ => inV_odd (.bl true) (fun z e => by cases e)
          · exact .inl ⟨_, rfl, nin _ (by decide +kernel)⟩
          · exact .inl ⟨_, rfl, decide_eq_false nk⟩
          · exact .inl ⟨_, rfl, nin _ (by decide +kernel)⟩
          · exact .inr fun H' s => inV_lst (s _ _ gl)
          · exact .inr fun H' s => inV_tup (s _ _ g8)
          · exact .inr fun H' s => inV_odd (.dic (s _ _ g9)) (fun z e => by cases e)
          · exact .inr fun H' s => inV_lst (s _ _ ga)
        refine ⟨qb, rfl, ⟨_, SqL.of gb⟩, for_list (K := K) (a := qb) (xs := [V.non, .int 0, .bl true, .str "", .str "nokind", .str "K", .ref nl, .ref q8, .ref q9, .ref qa]) (fun i σ H' => ∃ v6 : Option V, σ = [some (.ref b), some (.ref d), some (.ref nl), none, some (.ref q2), none, v6] ∧ Same Hb H') ⟨none, rfl, Same.refl _⟩ (fun i σ H' _ h => ?_) (fun i x σ H' hx h => ?_) (fun σ H' h => ?_)⟩
        · obtain ⟨_, _, e⟩ := h
          exact SqL.of (e _ _ gb)
        · obtain ⟨v6, rfl, e⟩ := h
          have g := good x (List.mem_of_getElem? hx)
          have hf : inBook rs x = false := by
            rcases g with ⟨z, _, q⟩ | g
            · exact q
            · obtain ⟨T, _, _, nz⟩ := g _ (Same.refl _)
              exact inBook_not nz
          have s0e := s0b.trans e
          refine ⟨_, rfl, _, rfl, b, dx, _, rfl, s0e _ _ hbi, b, x, rs, _, rfl, hb.same s0e, ?_, ?_⟩
          · rcases g with ⟨z, rfl, _⟩ | g
            · exact .inl ⟨z, rfl⟩
            · exact .inr (g _ e)
          · rw [hf]
            exact ⟨false, rfl, _, rfl, rfl, false, key _ _ rfl, iteF ⟨_, rfl, e⟩⟩
        · obtain ⟨v6, rfl, e⟩ := h
          have s0e := s0b.trans e
          have gle := e _ _ gl
          refine ⟨_, rfl, nl, rfl, ⟨_, SqL.of gle⟩, fun D8 nD8 => lc_it walk_list (fun i Hh => Same H' Hh ∧ ∃ ts : List Addr, Hh D8 = some (.lst (ts.map V.ref)) ∧ ts.length = i ∧ Paired (fun t u => Hh t = some (.tup (rowT u))) ts ((rowsSorted rs).take i)) ⟨Same.new nD8, [], upd_same, rfl, .nil⟩ (fun i Hh _ p => SqL.of (p.1 _ _ gle)) ?_ (fun Hz p => ?_)⟩
          · rintro i x H9 H10 hi ⟨p1, ts, hD8, hl8, hp8⟩ ⟨rfl, hx⟩
            rw [wl] at hi
            rw [List.getElem?_map] at hx
            cases hu : (rowsSorted rs)[i]? with
            | none => rw [hu] at hx; cases hx
            | some u =>
              rw [hu] at hx
              cases (Option.some.inj hx : V.str u.name = x)
              have s9 := s0e.trans p1
              have mu := (List.mergeSort_perm _ _).mem_iff.mp (List.mem_of_getElem? hu)
              refine ⟨rfl, ?_⟩
              simp only [tYes, if_true]
              refine ⟨_, rfl, b, dx, _, rfl, s9 _ _ hbi, rfl, _, rfl, b, rs, _, u, rfl, hb.same s9, mu, (ok u mu).name, fun o ko => ⟨o, u, rfl, ko, fun t nt => ⟨_, (Same.new nt) _ _ hD8, by rw [List.length_map, hl8, sizeLine_eq]; omega, (p1.trans (Same.new nt)).mut nD8, ts ++ [t], ?_, by rw [List.length_append, hl8]; rfl, ?_⟩⟩⟩
              · rw [upd_same, List.map_append]
                rfl
              · rw [List.take_add_one, hu]
                refine paired_app (paired_imp (fun t' u' z => ?_) hp8) (.cons ?_ .nil)
                · have n1 : t' ≠ D8 := fun zz => by
                    rw [zz, hD8] at z
                    cases z
                  rw [upd_ne n1]
                  exact Same.new nt _ _ z
                · have n1 : t ≠ D8 := (ne_of_none hD8 nt).symm
                  rw [upd_ne n1, upd_same]
                  rfl
          · obtain ⟨p1, ts, hD8, hl8, hp8⟩ := p
            rw [wl, List.take_length] at hp8
            have s0z := s0e.trans p1
            refine ⟨_, rfl, nl, rfl, ⟨_, SqL.of (p1 _ _ gle)⟩, fun D9 nD9 => lc_map walk_list (gAt (rowsSorted rs) fun u => (valV kvs (.inr u.name)).getD .non) nD9 (by rw [wl]; omega) (fun H'' s' => SqL.of (s' _ _ (p1 _ _ gle))) ?_ ?_⟩
            · rintro i x H11 H12 hi s11 ⟨rfl, hx⟩ R hR
              rw [List.getElem?_map] at hx
              cases hu : (rowsSorted rs)[i]? with
              | none => rw [hu] at hx; cases hx
              | some u =>
                rw [hu] at hx
                cases (Option.some.inj hx : V.str u.name = x)
                have mu := (List.mergeSort_perm _ _).mem_iff.mp (List.mem_of_getElem? hu)
                obtain ⟨a, g, ra⟩ := shop_get hk ndm u (pms.mem_iff.mpr mu)
                have qq := hR H12 (Same.refl _)
                rw [gAt, hu] at qq
                simp only [g, Option.getD_some] at qq
                exact ⟨rfl, _, rfl, _, rfl, d, .ref a, rfl, .inl ⟨kvs, .inr u.name, .inl ((s0z.trans s11) _ _ hd), rfl, g.symm⟩, qq⟩
            · intro Hy sy hD9
              rw [wl, gAt_all] at hD9
              obtain ⟨ly, dy⟩ := rows_lay (us := rowsSorted rs) fun u hu => ok u ((List.mergeSort_perm _ _).mem_iff.mp hu)
              have shp : SeqAt.shaped (.list ((rowsSorted rs).map fun u => PyData.tuple (rowE u))) = true := by
                simp only [SeqAt.shaped, PyData.canLay0, PyData.depth, ly]
                simp
                omega
              have vals : ∀ u ∈ rowsSorted rs, ∃ a, (valV kvs (.inr u.name)).getD .non = .ref a ∧ Hy a = some (.tup (rowT u)) := fun u hu => by
                obtain ⟨a, g, ra⟩ := shop_get hk ndm u (pms.mem_iff.mpr ((List.mergeSort_perm _ _).mem_iff.mp hu))
                exact ⟨a, by rw [g]; rfl, (s0z.trans sy) _ _ ra⟩
              refine ⟨_, _, .lst (SqL.of (sy _ _ hD8)) (dp_rows (L2.Paired.mapP hp8 fun _ _ z => sy _ _ z)), .lst (SqL.of hD9) (dp_vals vals), shp, shp, ?_⟩
              have ev : PyData.eqv (.list ((rowsSorted rs).map fun u => PyData.tuple (rowE u))) (.list ((rowsSorted rs).map fun u => PyData.tuple (rowE u))) = true := by
                simp only [PyData.eqv]
                exact eqv_rowsA _
              rw [ev]
              exact k _ (s0z.trans sy)
end
end N

set_option maxHeartbeats 4000000
namespace N
open PySem L2
theorem usual_words : WordsOk usualK := ⟨usual_ok, usual_fit, usual_nodup⟩
theorem names_rows {rs : List Row} : ∀ {ws : List Str}, (∀ x ∈ ws, x ∈ rs.map (·.name)) → ∃ us : List Row, ws = us.map (·.name) ∧ ∀ u ∈ us, u ∈ rs
  | [], _ => ⟨[], rfl, fun _ h => nomatch h⟩
  | x :: ws, h => by
    obtain ⟨u, hu, rfl⟩ := List.mem_map.mp (h x (.head _))
    obtain ⟨us, rfl, hs⟩ := names_rows fun z hz => h z (.tail _ hz)
    exact ⟨u :: us, rfl, fun z hz => (List.mem_cons.mp hz).elim (fun e => e ▸ hu) (hs z)⟩
theorem word_of (us : List Row) : (us.map (·.name)).map V.str = wordV us := by rw [wordV, List.map_map]; rfl
/-- what stands while the law goes on -/
structure Sit (CB C : Addr) (T : List (Addr × Str)) (p b d u : Addr) (rs : List Row) (H0 H : Hp) : Prop where
  pot : Pot H p
  real : BookAt CB C H b rs (rowsSorted rs)
  shop : ShopAt H d rs
  usual : BookAt CB C H u usualK (rowsSorted usualK)
  tabs : LamX.Tabs T H
  xb : XB p H0 H
section
variable {CB C : Addr} {T : List (Addr × Str)} {p b d u : Addr} {rs : List Row} {H0 H H' : Hp}
theorem Sit.step (h : Sit CB C T p b d u rs H0 H) (hp : Pot H' p) (e : XB p H H') (t : LamX.Tabs T H') : Sit CB C T p b d u rs H0 H' := ⟨hp, h.real.xb h.pot e, h.shop.xb h.pot e, h.usual.xb h.pot e, t, h.xb.trans e⟩
theorem Sit.ext (h : Sit CB C T p b d u rs H0 H) (e : LamX.ExtN H H') (t : LamX.Tabs T H') : Sit CB C T p b d u rs H0 H' := h.step (h.pot.xb e) (XB.ext e) t
theorem Sit.same (h : Sit CB C T p b d u rs H0 H) (s : Same H H') : Sit CB C T p b d u rs H0 H' := h.ext (LamX.ExtN.of s) fun z hz => (h.tabs z hz).ext s
theorem Sit.but (h : Sit CB C T p b d u rs H0 H) (hp : Pot H' p) (e : But p H H') : Sit CB C T p b d u rs H0 H' := h.step hp (XB.of e) (tabs_but h.pot h.tabs e)
theorem Sit.off (h : Sit CB C T p b d u rs H0 H) {q : Addr} (hq : H q = none) : q ≠ p := fun z => by
  obtain ⟨x, y, e, _⟩ := h.pot
  rw [z, e] at hq
  cases hq
end
def spRight (T : List (Addr × Str)) : Sp := fun vs H Q _ => ∃ p : Addr, vs = [.ref p] ∧ Pot H p ∧ LamX.Tabs T H ∧ ∀ H', Pot H' p → XB p H H' → LamX.Tabs T H' → Q (.bl true) H'
def oneKind (l : Str) : Row := ⟨l, 1, 1, some l, none, 1⟩
theorem one_ok {l : Str} (h : NameOk l) : KindOk (oneKind l) := ⟨h, fun x e => (Option.some.inj e) ▸ h, fun x e => (by cases e), ⟨by show (0:Int) ≤ 1; decide, by show (1:Int) ≤ 6; decide⟩, ⟨by show (0:Int) ≤ 1; decide, by show (1:Int) ≤ 6; decide⟩, fun z => absurd z.1 (by show ¬ (1:Int) = 0; decide), ⟨by show (0:Int) ≤ 1; decide, by show (1:Int) ≤ 999; decide⟩⟩
theorem one_fit (l : Str) : FitOk [oneKind l] := by
  refine ⟨fun r hr x e => ?_, fun r hr x e => ?_, fun r hr x y e e2 => ?_⟩
  · rw [List.mem_singleton.mp hr] at e ⊢
    exact ⟨oneKind l, .head _, Option.some.inj e, rfl, rfl, rfl⟩
  · rw [List.mem_singleton.mp hr] at e
    cases e
  · rw [List.mem_singleton.mp hr] at e2
    cases e2
theorem one_sorted (l : Str) : rowsSorted [oneKind l] = [oneKind l] := by simp [rowsSorted]
section
variable {P : Program} {w : World} {K : PySem.W.Frag} {mg : Str → Option Value} {base : Heap} {C CB : Addr} {Cs : Nat → Addr}
theorem cmp_eq (U : BookT K mg CB) {Hx : Hp} {x y : Addr} {r1 w1 r2 w2 : List Row} {Qx : VK} {v : Bool} (h1 : BookAt CB C Hx x r1 w1) (h2 : BookAt CB C Hx y r2 w2) (o1 : ∀ u ∈ w1, KindOk u) (o2 : ∀ u ∈ w2, KindOk u) (e : decide (w1 = w2) = v) (q : ∀ Hy, Same Hx Hy → Qx (.bl v) Hy) :
    rCmpOwn K CB (spEqB K CB C) E0 (.ref x) (.ref y) Hx Qx := by
  obtain ⟨d1, _, _, _, _, i1, _⟩ := id h1
  obtain ⟨d2, _, _, _, _, i2, _⟩ := id h2
  exact ⟨x, d1, _, .ref CB, rfl, i1, U.own.ty i2, notFirst_self, x, .ref y, r1, w1, rfl, h1, o1, .inl ⟨y, r2, w2, rfl, h2, o2, fun Hy s => by rw [e]; exact q Hy s⟩⟩
theorem cmp_ne (U : BookT K mg CB) {Hx : Hp} {x y : Addr} {r1 w1 r2 w2 : List Row} {Qx : VK} {v : Bool} (h1 : BookAt CB C Hx x r1 w1) (h2 : BookAt CB C Hx y r2 w2) (o1 : ∀ u ∈ w1, KindOk u) (o2 : ∀ u ∈ w2, KindOk u) (e : decide (w1 = w2) = v) (q : ∀ Hy, Same Hx Hy → Qx (.bl (!v)) Hy) :
    rNeOwn K CB (spEqB K CB C) E0 (.ref x) (.ref y) Hx Qx := by
  obtain ⟨d1, _, _, _, _, i1, _⟩ := id h1
  obtain ⟨d2, _, _, _, _, i2, _⟩ := id h2
  exact ⟨x, d1, _, .ref CB, rfl, i1, U.own.ty i2, notFirst_self, x, .ref y, r1, w1, rfl, h1, o1, .inl ⟨y, r2, w2, rfl, h2, o2, fun Hy s => by rw [e]; exact ⟨v, rfl, q Hy s⟩⟩⟩
abbrev s__law_right : Stmt := top 55
theorem sc__law_right : FnScope ["_law_pot_here", "_law_model", "_law_real", "_law_usual", "_law_turn", "_law_labels", "_law_label", "_law_single"] ["_law_pot_here"] (defScope s__law_right) := ⟨rfl, rfl, rfl, by decide +kernel, rfl, by decide +kernel, by decide +kernel⟩
theorem h_law_right {T : List (Addr × Str)} {mc : Value} {pU gU fB : Addr} (B : Blts mg) (U : BookT K mg CB) (KT : KindT K mg C Cs) (F : FunAt K mg "_law_right" "_law_right" s__law_right)
    (neB : PySem.W.findIn K (.ref CB) "__ne__" = some (some (.builtin "object.__ne__"))) (CR : ClX.CRead K CB mc) (CM : ClX.CMet K CB mc "usual" pU gU) (FU : FnR P w K mg base CX0 8 gU (spUsual CB C T)) (MB : Mk K CB fB)
    (FB : FnR P w K mg base CX0 6 fB (fun vs H Q E => ∃ ws rest, vs = ws ++ rest ∧ ws.length = (["self"] : List Str).length ∧ rest.length ≤ sizeLine ∧ ∀ p, H p = Option.none → spBInit CB C T (ws ++ [V.ref p]) (upd H p (.tup rest)) Q E))
    (hKind1 : MakX P w K mg base "Kind" C 4 3 ["self", "name", "takes", "makes", "back", "mirror", "yarn"] ["back"] (spKind C Cs) (fun vs zs => vs ++ (zs ++ [.non, .int 1])))
    (h_law_pick : Has P w K mg base "_law_pick" 2 ["_law_pot_here", "_law_some"] (spPick K)) (h_law_book : Has P w K mg base "_law_book" 3 ["_law_pot_here", "_law_both_sides"] spBook) (h_law_real_book : Has P w K mg base "_law_real_book" 8 ["_law_book_here"] (spRealBook CB C T))
    (h_law_usual_rows : Has P w K mg base "_law_usual_rows" 1 [] spUsualRows) (h_law_is_likeP : Has P w K mg base "_law_is_like" 4 ["_law_real", "_law_model"] (spLikeP CB C)) (h_law_equal_right : Has P w K mg base "_law_equal_right" 9 ["_law_pot_here", "_law_real", "_law_model"] (spEqualRight CB C T))
    (h_law_odd_right : HasG P w K mg base "_law_odd_right" 9 ["_law_real", "_law_model"] (spOddRight CB C T)) (h_law_word_right : Has P w K mg base "_law_word_right" 6 ["_law_real", "_law_model", "_law_some"] (spWordRight CB C)) (h_law_word : Has P w K mg base "_law_word" 3 ["_law_pot_here", "_law_names", "_law_most"] (spWord K))
    (h_law_told : Has P w K mg base "_law_told" 4 ["_law_real", "_law_some", "_law_way"] (spTold CB C)) (m_names : HasM P w K mg base CB "names" 3 ["self"] (spNames CB C)) (m_len : HasM P w K mg base CB "__len__" 1 ["self"] (spLen CB C)) (m_eqB : HasM P w K mg base CB "__eq__" 6 ["self", "other"] (spEqB K CB C)) :
    HasG P w K mg base "_law_right" 11 ["_law_pot_here"] (spRight T) := by
  refine hasG_of F sc__law_right (fun _ _ _ _ _ _ us hl => match us, hl with | [_], _ => rfl) (fun vs H Q E h => ?_) (fun f cdv A outer s H vs Q E hG hr h => ?_)
  · obtain ⟨p, rfl, _⟩ := h
    rfl
  · obtain ⟨p, rfl, hp, hT, k⟩ := h
    refine ⟨_, (pss_cons (ps_set (i := 1) sc__law_right.nd rfl (Or.inl rfl) (pe_has h_law_book (hr.mono (by decide)) (pa_cons (pv 0) (pa_cons pe_bl pa_nil))))
      (pss_cons (ps_par (i := 2) (j := 3) (by rfl) sc__law_right.nd rfl rfl (by decide) rfl rfl (pa_cons (pe_has h_law_real_book (hr.mono (by decide)) (pa_cons (pv 1) pa_nil)) (pa_cons (pe_cmeth0 (pe_glob (v := .ref CB) rfl U.g rfl) CR CM FU (hr.mono (by decide)) pass0) pa_nil)) (by rfl))
      (pss_cons (ps_if (PW.pt (pw_or (pt_not (pt_val (pe_has h_law_is_likeP (hr.mono (by decide)) (pa_cons (pv 2) (pa_cons (pv 1) pa_nil))))) (pw_or (pt_not (pt_val (pe_has h_law_equal_right (hr.mono (by decide)) (pa_cons (pv 0) (pa_cons (pv 2) (pa_cons (pv 1) pa_nil)))))) (pw_or1 (pt_not (pt_val (pe_hasG h_law_odd_right (hr.mono (by decide)) hG (pa_cons (pv 2) (pa_cons (pv 1) pa_nil))))))))) (pss_one (ps_ret pe_bl))
        pss_nil)
      (pss_cons (ps_for PassesOwn.never rfl (pi_range1 (by rfl) B.n_range (pa_cons pe_int pa_nil)) (pg_name (i := 4) sc__law_right.nd rfl (Or.inl rfl))
        (pss_cons (ps_if (pt_not (pt_val (pe_has h_law_word_right (hr.mono (by decide)) (pa_cons (pv 2) (pa_cons (pv 1) (pa_cons (pe_has h_law_word (hr.mono (by decide)) (pa_cons (pv 0) (pa_cons (pe_callB (call_sortedD rfl) (by rfl) B.n_sorted (by decide +kernel) (pa_cons (pv 1) pa_nil)) (pa_cons pe_int pa_nil)))) pa_nil)))))) (pss_one (ps_ret pe_bl))
          pss_nil)
        (pss_cons (ps_set (i := 5) sc__law_right.nd rfl (Or.inl rfl) (pe_ifExp (pt_cmpR op_lt (pv 4) pe_int (by first | exact nomark _ | rfl)) (pe_callB (call_sortedD rfl) (by rfl) B.n_sorted (by decide +kernel) (pa_cons (pe_has0 h_law_usual_rows (hr.mono (by decide))) pa_nil)) (pe_lst (pa_cons pe_str (pa_cons pe_str (pa_cons pe_str (pa_cons pe_str (pa_cons pe_str (pa_cons pe_str (pa_cons pe_str (pa_cons pe_str pa_nil)))))))))))
        (pss_one (ps_if (pt_not (pt_val (pe_has h_law_word_right (hr.mono (by decide)) (pa_cons (pv 3) (pa_cons (pe_has0 h_law_usual_rows (hr.mono (by decide))) (pa_cons (pe_has h_law_word (hr.mono (by decide)) (pa_cons (pv 0) (pa_cons (pv 5) (pa_cons pe_int pa_nil)))) pa_nil)))))) (pss_one (ps_ret pe_bl))
          pss_nil)))))
      (pss_cons (ps_set (i := 6) sc__law_right.nd rfl (Or.inl rfl) (pe_has h_law_pick (hr.mono (by decide)) (pa_cons (pv 0) (pa_cons (pe_callB (call_sortedD rfl) (by rfl) B.n_sorted (by decide +kernel) (pa_cons (pv 1) pa_nil)) pa_nil))))
      (pss_cons (ps_set (i := 7) sc__law_right.nd rfl (Or.inl rfl) (StX.pe_makeR MB FB (hr.mono (by decide)) rfl U.g pass0 (pa_cons (pe_makX hKind1 (hr.mono (by decide)) passL (pa_cons (pv 6) (pa_cons pe_int (pa_cons pe_int pa_nil))) (pk_cons (pv 6) pk_nil)) pa_nil)))
      (pss_cons (ps_if (PW.pt (pw_or (pt_cmpR (op_eqKind m_eqB (hr.mono (by decide))) (pv 7) (pv 2) (by first | exact nomark _ | rfl)) (pw_or (pt_cmpR (op_neD hr.units) (pe_hasM0 m_names U.cl (hr.mono (by decide)) (pv 7)) (pe_lst (pa_cons (pv 6) pa_nil)) (by first | exact nomark _ | rfl)) (pw_or (pt_cmpR op_ne (pe_callB (call_lenM m_len (hr.mono (by decide))) (by rfl) B.n_len PySem.boot_len (pa_cons (pv 7) pa_nil)) pe_int (by first | exact nomark _ | rfl)) (pw_or1 (pt_cmpR op_ne (pe_ix ix_list (pe_has h_law_told (hr.mono (by decide)) (pa_cons (pv 7) (pa_cons (pe_tup (pa_cons (pv 6) pa_nil)) (pa_cons pe_int pa_nil)))) pe_int (fun _ _ => rfl)) pe_str (by first | exact nomark _ | rfl))))))) (pss_one (ps_ret pe_bl))
        pss_nil)
      (pss_one (ps_ret (pe_and (pe_has h_law_is_likeP (hr.mono (by decide)) (pa_cons (pv 3) (pa_cons (pe_has0 h_law_usual_rows (hr.mono (by decide))) pa_nil))) (pe_and (pe_cmpR (op_eqKind m_eqB (hr.mono (by decide))) (pv 3) (pe_cmeth0 (pe_glob (v := .ref CB) rfl U.g rfl) CR CM FU (hr.mono (by decide)) pass0) (by first | exact nomark _ | rfl)) (pe_one (pe_cmpR (op_neKind U.own.mo neB m_eqB (hr.mono (by decide))) (pv 3) (pv 7) (by first | exact nomark _ | rfl)))))))))))))), ?_⟩
    refine ⟨_, rfl, p, false, rfl, hp, fun d kvs rs H1 nd hd hk okb hp1 e1 => ?_⟩
    refine next_of ?_
    dsimp only
    have ok := okb.shelf
    have T1 := tabs_but hp hT e1
    refine ⟨_, rfl, d, rs, rfl, ⟨kvs, hd, hk⟩, ok, T1, fun b H2 nb x2 T2 A2 => ⟨rfl, rfl, T2, fun u H3 nu x3 T3 U3 => ⟨_, _, rfl, ?_⟩⟩⟩
    dsimp only
    have S3 : Sit CB C T p b d u rs H H3 := ⟨(hp1.xb x2).xb x3, A2.ext x3, (ShopAt.ext ⟨kvs, hd, hk⟩ x2).ext x3, U3, T3, (XB.of e1).trans (XB.ext (x2.trans x3))⟩
    have nodup := ok.nodup
    have l10 := ok.len
    have ne : rs ≠ [] := fun z => by rw [z] at l10; cases l10
    have nk : ("nokind" : Str) ∉ rs.map (·.name) := fun m => by
      have q := okb.names.mem_iff.mp m
      exact absurd q (by decide +kernel)
    have yarn : ∀ v ∈ rs, v.yarn ≤ 900 := fun v hv => by
      have := (okb.part.yarn v hv).2
      omega
    clear A2 U3 T3 T2 T1 hd hk hp1 e1 x2 x3
    refine ⟨_, rfl, _, rfl, b, d, rs, rs, rfl, S3.real, S3.shop, .refl _, ok.kind, by omega, ne, nk, fun H4 s4 => ⟨_, rfl, iteF ?_⟩⟩
    have S4 := S3.same s4
    refine ⟨_, rfl, _, rfl, _, rfl, p, b, d, rs, rfl, S4.pot, S4.real, S4.shop, ok, yarn, S4.tabs, fun H5 hp5 x5 T5 => ⟨_, rfl, iteF ?_⟩⟩
    have S5 := S4.step hp5 x5 T5
    refine ⟨_, rfl, _, rfl, b, d, rs, rfl, S5.real, S5.shop, fun v hv => (ok.kind v hv).name, nk, ne, by omega, S5.tabs, fun H6 x6 T6 => ⟨_, rfl, iteF ?_⟩⟩
    have S6 := S5.ext x6 T6
    clear S3 S4 S5 s4 x5 T5 x6 T6 hp5
    refine next_of ?_
    dsimp only
    have lq : (rowsSorted rs).length = rs.length := by have := (rowsSorted_names rs).1.length_eq; simpa using this
    have msort : ∀ v, v ∈ rowsSorted rs ↔ v ∈ rs := fun v => (List.mergeSort_perm _ _).mem_iff
    have qne : (rowsSorted rs).map (·.name) ≠ [] := fun z => ne (List.length_eq_zero_iff.mp (lq.symm.trans (List.length_eq_zero_iff.mpr (List.map_eq_nil_iff.mp z))))
    have l64 : (rs.map (·.name)).length < 64 := by rw [List.length_map]; omega
    refine ⟨6, rfl, by decide, by decide, for_range (n := 6) (fun j σ H' => ∃ v4 v5 : Option V, σ = [some (.ref p), some (.ref d), some (.ref b), some (.ref u), v4, v5, none, none] ∧ Sit CB C T p b d u rs H H') ⟨none, none, rfl, S6⟩ (fun i σ H' hi h => ?_) (fun σ H' h => ?_)⟩
    · obtain ⟨v4, v5, rfl, S⟩ := h
      obtain ⟨kvs, hd, hk⟩ := id S.shop
      refine ⟨_, rfl, _, rfl, _, rfl, _, rfl, d, kvs, rs.map (·.name), rfl, .inl hd, ShopAt.keys hk, l64, fun names nl pm so nn => ?_⟩
      obtain rfl := sorted_are pm so
      have S1 := S.same (Same.new (o := .lst (((rowsSorted rs).map (·.name)).map V.str)) nn)
      have np := S.off nn
      refine ⟨p, nl, _, 7, rfl, S1.pot, SqL.of upd_same, np, qne, by rw [List.length_map, lq]; omega, by decide, by decide, fun t ws H1 nt ht hws hlw hp1 e1 => ?_⟩
      have S2 := S1.but hp1 e1
      obtain ⟨us, rfl, hus⟩ := names_rows hws
      rw [List.length_map] at hlw
      rw [word_of] at ht
      refine ⟨b, d, t, rs, _, rs, us, rfl, S2.real, S2.shop, .refl _, ok.words, ht, ⟨by omega, fun v hv => (msort v).mp (hus v hv)⟩, fun H2 s2 => ⟨_, rfl, iteF ?_⟩⟩
      have S3 := S2.same s2
      clear S1 S2 s2 hd hk kvs ht hws e1 hp1
      refine next_of ?_
      dsimp only
      refine seq_cut (fun σ' Hx => ∃ (l : Addr) (names : List Str), σ' = [some (.ref p), some (.ref d), some (.ref b), some (.ref u), some (.int (0 + (i : Int))), some (.ref l), none, none] ∧ Hx l = some (.lst (names.map V.str)) ∧ l ≠ p ∧ names ≠ [] ∧ names.length < 100 ∧ (∀ x ∈ names, x ∈ usualK.map (·.name)) ∧ Sit CB C T p b d u rs H Hx) (fun Z hZ => ?_) ?_
      · refine ⟨_, rfl, _, _, rfl, rfl, _, rfl, ite2 (fun c => ?_) (fun c => ?_)⟩
        · refine ⟨rfl, fun du Hu nu su ss => ?_⟩
          obtain ⟨ku, hdu, hku⟩ := id su
          refine ⟨du, ku, usualRows.map (·.name), rfl, .inl hdu, ShopAt.keys hku, by decide, fun names nl pm so nn => ?_⟩
          have Su := (S3.same ss).same (Same.new (o := .lst (names.map V.str)) nn)
          have ln : names.length = 10 := pm.length_eq
          exact hZ _ _ ⟨nl, names, rfl, upd_same, (S3.same ss).off nn, (fun z => by rw [z] at ln; cases ln), by omega, fun x hx => (usual_perm.map (·.name)).mem_iff.mp (pm.mem_iff.mp hx), Su⟩
        · refine ⟨(by show 8 ≤ sizeLine; decide), fun l nl => ?_⟩
          exact hZ _ _ ⟨l, ["bo", "k", "ktog", "p", "ptog", "ssk", "ssp", "yo"], rfl, upd_same, S3.off nl, (fun z => by cases z), (by show 8 < 100; decide), (by decide +kernel), S3.same (Same.new nl)⟩
      · rintro _ Hx ⟨l, names, rfl, hl, lp, nne, ln, nin, Sx⟩
        refine ⟨_, rfl, rfl, fun du Hu nu su ss => ⟨_, rfl, _, rfl, p, l, names, 7, rfl, (Sx.same ss).pot, SqL.of (ss _ _ hl), lp, nne, by omega, by decide, by decide, fun t ws H1 nt ht hws hlw hp1 e1 => ?_⟩⟩
        obtain ⟨us, rfl, hus⟩ := names_rows (rs := usualK) (ws := ws) fun x hx => nin x (hws x hx)
        rw [List.length_map] at hlw
        rw [word_of] at ht
        have Sy := (Sx.same ss).but hp1 e1
        refine ⟨u, du, t, usualK, _, usualRows, us, rfl, Sy.usual, ShopAt.xb (Sx.same ss).pot su (XB.of e1), usual_perm, usual_words, ht, ⟨by omega, hus⟩, fun H2 s2 => ⟨_, rfl, iteF ?_⟩⟩
        exact ⟨_, _, rfl, Sy.same s2⟩
    · obtain ⟨v4, v5, rfl, S⟩ := h
      obtain ⟨kvs, hd, hk⟩ := id S.shop
      refine ⟨_, rfl, _, rfl, d, kvs, rs.map (·.name), rfl, .inl hd, ShopAt.keys hk, l64, fun names nl pm so nn => ?_⟩
      obtain rfl := sorted_are pm so
      have S1 := S.same (Same.new (o := .lst (((rowsSorted rs).map (·.name)).map V.str)) nn)
      refine ⟨p, nl, _, rfl, S1.pot, SqL.of upd_same, S.off nn, fun z => qne (List.map_eq_nil_iff.mp z), by rw [List.length_map, List.length_map, lq]; omega, fun v H1 hv hp1 e1 => ?_⟩
      have S2 := S1.but hp1 e1
      obtain ⟨x, hx, rfl⟩ := List.mem_map.mp hv
      obtain ⟨lab, hlab, rfl⟩ := List.mem_map.mp hx
      have nlab := (ok.kind lab ((msort lab).mp hlab)).name
      have okr := one_ok nlab
      clear hd hk kvs hv hx S S1 e1 hp1 nn
      refine next_of ?_
      dsimp only
      -- a book of one kind
      have nf : (oneKind lab.name).six.fault = none := Row.sound okr
      refine ⟨_, rfl, _, rfl, rfl, rfl, fun z dz hz hdz zne => ?_⟩
      refine ⟨z, dz, (oneKind lab.name).six, rfl, upd_same, Row.odd okr _, fun _ H2 hkz e2 => ⟨rfl, ?_⟩, fun kk v hf => (by rw [nf] at hf; cases hf)⟩
      have s2 : Same H1 H2 := made_same hz hdz e2
      refine fun y dy hy hdy yne => ⟨[V.ref y], [V.ref z], rfl, rfl, (by show 1 ≤ sizeLine; decide), fun t nt => ?_⟩
      have s3 := (made_odd (C := CB) hy hdy yne).trans (Same.new (o := .tup [V.ref z]) nt)
      have S3 := (S2.same s2).same s3
      have kz : KindAt C H2 z (oneKind lab.name) := ⟨dz, hkz⟩
      refine ⟨y, dy, t, [z], [oneKind lab.name], rfl, (upd_ne (ne_of_none upd_same nt)).trans upd_same, upd_same, .cons (kz.same s3) .nil, one_fit _, by simp, by simp, by simp, S3.tabs, fun H4 nb4 T4 B4 => ⟨rfl, ?_⟩⟩
      have e24 : LamX.ExtN H2 H4 := fun a o ha n => nb4 a o (ne_of_none ha hy) (s3 _ _ ha) n
      have S4 := (S2.same s2).ext e24 T4
      rw [one_sorted] at B4
      clear S3 S2 s2 s3 kz hkz e2 e24 nb4 T4 nf
      refine next_of ?_
      dsimp only
      have key : ∀ x y : V, x = y → V.bl (!decide (x = y)) = V.bl false := fun x y h => by
        subst h
        simp
      have okq : ∀ v ∈ rowsSorted rs, KindOk v := fun v hv => ok.kind v ((msort v).mp hv)
      have ok1 : ∀ v ∈ [oneKind lab.name], KindOk v := fun v hv => by
        rw [List.mem_singleton.mp hv]
        exact okr
      have E1 : decide ([oneKind lab.name] = rowsSorted rs) = false := decide_eq_false fun z => by
        have := congrArg List.length z
        rw [lq, l10] at this
        cases this
      have shN : SeqAt.shaped (.list [PyData.str lab.name]) = true := names_shaped (us := [lab]) fun v hv => by
        rw [List.mem_singleton.mp hv]
        exact nlab
      refine ⟨_, rfl, _, rfl, cmp_eq U B4 S4.real ok1 okq E1 fun H5 s5 => ⟨_, rfl, iteF ?_⟩⟩
      obtain ⟨dB, _, _, _, _, iB, _⟩ := id (B4.same s5)
      refine ⟨_, rfl, y, dB, _, rfl, iB, rfl, y, _, _, rfl, B4.same s5, (by show 1 ≤ 1000; decide), fun q H6 nq hq s6 => ⟨_, rfl, (by show 1 ≤ sizeLine; decide), fun l nl2 => ?_⟩⟩
      have sl : Same H6 (upd H6 l (.lst [.str lab.name])) := Same.new nl2
      refine ⟨.list [.str lab.name], .list [.str lab.name], .lst (SqL.of (sl _ _ hq)) (.cons (.str _) .nil), .lst (SqL.of upd_same) (.cons (.str _) .nil), shN, shN, _, rfl, ?_⟩
      rw [show PyData.eqv (.list [PyData.str lab.name]) (.list [.str lab.name]) = true by simp [PyData.eqv, PyData.eqvAll]]
      refine iteF ?_
      have s56 := (s5.trans s6).trans sl
      generalize upd H6 l (.lst [V.str lab.name]) = H7 at s56 ⊢
      have B7 := B4.same s56
      obtain ⟨d7, _, _, _, _, i7, _⟩ := id B7
      refine ⟨_, rfl, y, d7, _, rfl, i7, y, _, _, rfl, B7, (by show 1 ≤ 1000; decide), _, rfl, (by show (0:Int) ≤ 1; decide), (by show (1:Int) < 2 ^ 63; decide), rfl, false, key _ _ rfl, iteF ?_⟩
      refine ⟨_, rfl, _, rfl, (by show 1 ≤ sizeLine; decide), fun t2 nt2 => ⟨y, t2, [oneKind lab.name], _, [oneKind lab.name], 3, rfl, .inr rfl, B7.same (Same.new nt2), upd_same, ⟨(by show 1 ≤ 240; decide), fun _ h => h⟩, fun r H8 nr due s8 => ⟨r, _, 0, _, rfl, rfl, SqL.of (due.1 (oneKind lab.name) [] rfl), rfl, rfl, false, key _ _ rfl, iteF ?_⟩⟩⟩
      have s78 := (Same.new (o := .tup [.str lab.name]) nt2).trans s8
      have S8 := (S4.same s56).same s78
      have B8 := B7.same s78
      clear due
      refine next_of ?_
      dsimp only
      refine ⟨_, rfl, rfl, fun du Hu nu su ss => ⟨u, du, usualK, usualRows, rfl, (S8.same ss).usual, su, usual_perm, usual_ok, by decide, by decide, by decide +kernel, fun H9 s9 => ⟨_, rfl, iteT ?_⟩⟩⟩
      have S9 := (S8.same ss).same s9
      have B9 := (B8.same ss).same s9
      have okU : ∀ v ∈ rowsSorted usualK, KindOk v := fun v hv => usual_ok v ((List.mergeSort_perm _ _).mem_iff.mp hv)
      refine ⟨_, rfl, rfl, rfl, S9.tabs, fun u2 Ha nu2 xa Ta Ua => cmp_eq U (S9.usual.ext xa) Ua okU okU (decide_eq_true rfl) fun Hb sb => ⟨_, rfl, iteT ?_⟩⟩
      have Sb := (S9.ext xa Ta).same sb
      have lU : (rowsSorted usualK).length = 10 := (List.mergeSort_perm _ _).length_eq
      have E2 : decide (rowsSorted usualK = [oneKind lab.name]) = false := decide_eq_false fun z => by
        have := congrArg List.length z
        rw [lU] at this
        cases this
      refine ⟨_, rfl, _, rfl, cmp_ne U Sb.usual ((B9.ext xa).same sb) okU ok1 E2 fun Hc sc => ?_⟩
      have Sc := Sb.same sc
      exact k Hc Sc.pot Sc.xb Sc.tabs
end
end N

set_option maxHeartbeats 8000000
namespace L2
open PySem PySem.Spec PyProof.Rows
section
variable {K : PySem.W.Frag} {mg : Str → Option Value} {h : Heap}
/-- a def with keyword-only defaults -/
theorem funK_mk {x qual : Str} {st : Stmt} {f D : Addr} {kws : List (Str × V)} {oc : Value} {od an : Option Addr} {osl : Array (Option Value)} {doc pm cdv ct : Value}
    (l : K.lookup f = some ⟨oc, od, .func (PySem.W.fnOf x qual (defArgs st) (defBody st) (defScope st) .none (.ref D) doc pm an cdv ct), osl⟩) (c : PySem.W.codeIn K cdv qual = true) (k : PySem.W.keepIn K (.ref f) = true)
    (d : ∀ q ∈ kws, ∃ u, PySem.W.nsIn K D q.1 = some (some u) ∧ RelV q.2 u) : FunD K x qual (defArgs st) (defBody st) (defScope st) [] kws f (PySem.W.fnOf x qual (defArgs st) (defBody st) (defScope st) .none (.ref D) doc pm an cdv ct) :=
  ⟨⟨oc, od, .none, .ref D, doc, pm, an, cdv, ct, osl, rfl, l, c, .inl ⟨rfl, rfl⟩, .inr ⟨D, rfl, d⟩⟩, k⟩
theorem funAtC_mk {x qual : Str} {st : Stmt} {f c : Addr} {oc : Value} {od an : Option Addr} {osl : Array (Option Value)} {kV doc pm ct : Value} (X : K.In h) (G : h.Ns mainGlobals mg) (a : PySem.W.nsIn K mainGlobals x = some (some (.ref f)))
    (l : K.lookup f = some ⟨oc, od, .func (PySem.W.fnOf x qual (defArgs st) (defBody st) (defScope st) .none kV doc pm an (.ref c) ct), osl⟩) (cd : PySem.W.codeIn K (.ref c) qual = true) (k : PySem.W.keepIn K (.ref f) = true) : FunAtC K mg x qual st c :=
  ⟨f, oc, od, kV, doc, pm, an, ct, osl, PySem.W.mg_of X G a, l, cd, k⟩
/-- an own error with one field -/
theorem errC_mk {x f qual : Str} {C fI N : Addr} {st : Stmt} {nm q : Str} {bs bm : List Value} {sn : List Str} {sub : List Value} {ab : Bool} {col : Option Bool} {dd : Option Addr} {k0 k1 k2 k3 k5 : Option Value}
    {od an : Option Addr} {sl : Array (Option Value)} {oc kV dc pm cd ct : Value} (X : K.In h) (G : h.Ns mainGlobals mg)
    (aC : PySem.W.nsIn K mainGlobals x = some (some (.ref C)))
    (xL : K.lookup C = some (excClassObj nm q C N bs bm true sn sub ab col dd k0 k1 k2 k3 k5 "ValueError.__new__")) (rf : PySem.HandSPX.refsVE bm = true)
    (sa : PySem.W.findIn K (.ref C) "__setattr__" = some (some (.builtin "object.__setattr__"))) (ga : PySem.W.findIn K (.ref C) "__getattribute__" = some (some (.builtin "BaseException.__getattribute__"))) (gg : PySem.W.findIn K (.ref C) "__getattr__" = some none) (nb : PySem.W.findIn K (.ref C) f = some none)
    (kC : PySem.W.keepIn K (.ref C) = true) (eC : PySem.W.subIn K (.ref C) (.type "BaseException") = some true) (tC : PySem.W.typeIn K (.ref C) = some (.type "type")) (hC : PySem.W.hasDictIn K C = true)
    (a1 : PySem.W.findIn K (.ref C) "__init__" = some (some (.ref fI))) (t1 : PySem.W.typeIn K (.ref fI) = some (.type "function"))
    (l : K.lookup fI = some ⟨oc, od, .func (PySem.W.fnOf "__init__" qual (defArgs st) (defBody st) (defScope st) .none kV dc pm an cd ct), sl⟩) (c : PySem.W.codeIn K cd qual = true) (k : PySem.W.keepIn K (.ref fI) = true) : ErrC K mg x f C st qual :=
  ⟨⟨⟨_, _, _, _, _, _, _, _, _, _, _, _, _, _, _, xL, rf⟩, sa, eC, tC, kC⟩, ⟨ga, gg, eC, hC⟩, PySem.W.mg_of X G aC, nb, fI, _, a1, t1, fun_mk l c k⟩
/-- is an error of the class at A what «except D» names -/
theorem exm_mk {A D : Addr} {b : Bool} (h1 : PySem.W.subIn K (.ref D) (.type "BaseException") = some true) (h2 : PySem.W.isClsIn K D = true) (h3 : PySem.W.typeIn K (.ref D) = some (.type "type")) (h4 : PySem.W.subIn K (.ref A) (.ref D) = some b) :
    PySem.W.exmOne K (.ref A) (.ref D) = some b := by
  have e1 : (PySem.W.subIn K (.ref D) (.type "BaseException") == some true) = true := by rw [h1] <;> rfl
  have e2 : ((PySem.W.clsIn K D).isSome && PySem.W.typeIn K (.ref D) == some (.type "type")) = true := by
    have h2' : (PySem.W.clsIn K D).isSome = true := h2
    rw [h2', h3] <;> rfl
  show (if (PySem.W.subIn K (.ref D) (.type "BaseException") == some true) = true then (if ((PySem.W.clsIn K D).isSome && PySem.W.typeIn K (.ref D) == some (.type "type")) = true then PySem.W.subIn K (.ref A) (.ref D) else none) else none) = some b
  rw [if_pos e1, if_pos e2]
  exact h4
end
end L2
namespace N
open PySem PySem.Spec PyProof.Rows L2
section
variable {K : PySem.W.Frag} {mg : Str → Option Value} {h : Heap}
/-- an own error over LookupError with one field -/
theorem noC_mk {x qual : Str} {C fI N : Addr} {st : Stmt} {nm q : Str} {bs bm : List Value} {sn : List Str} {sub : List Value} {ab : Bool} {col : Option Bool} {dd : Option Addr} {k0 k1 k2 k3 k5 : Option Value}
    {od an : Option Addr} {sl : Array (Option Value)} {oc kV dc pm cd ct : Value} (X : K.In h) (G : h.Ns mainGlobals mg)
    (aC : PySem.W.nsIn K mainGlobals x = some (some (.ref C)))
    (xL : K.lookup C = some (excClassObj nm q C N bs bm true sn sub ab col dd k0 k1 k2 k3 k5 "LookupError.__new__")) (rf : PySem.W.excTail lkT bm = true)
    (sa : PySem.W.findIn K (.ref C) "__setattr__" = some (some (.builtin "object.__setattr__"))) (ga : PySem.W.findIn K (.ref C) "__getattribute__" = some (some (.builtin "BaseException.__getattribute__"))) (gg : PySem.W.findIn K (.ref C) "__getattr__" = some none) (nb : PySem.W.findIn K (.ref C) "name" = some none)
    (kC : PySem.W.keepIn K (.ref C) = true) (eC : PySem.W.subIn K (.ref C) (.type "BaseException") = some true) (tC : PySem.W.typeIn K (.ref C) = some (.type "type")) (hC : PySem.W.hasDictIn K C = true)
    (a1 : PySem.W.findIn K (.ref C) "__init__" = some (some (.ref fI))) (t1 : PySem.W.typeIn K (.ref fI) = some (.type "function"))
    (l : K.lookup fI = some ⟨oc, od, .func (PySem.W.fnOf "__init__" qual (defArgs st) (defBody st) (defScope st) .none kV dc pm an cd ct), sl⟩) (c : PySem.W.codeIn K cd qual = true) (k : PySem.W.keepIn K (.ref fI) = true) : NoC K mg x C st qual :=
  ⟨⟨⟨⟨_, _, _, _, _, _, _, _, _, _, _, _, _, _, _, xL, rf⟩, sa, eC, tC, kC, F.store_LookupError, F.excBase_LookupError⟩, ⟨ga, gg, eC, hC⟩, PySem.W.mg_of X G aC, fI, _, a1, t1, fun_mk l c k⟩, nb⟩
theorem initAtC_mk {CB f c : Addr} {qual : Str} {st : Stmt} {oc : Value} {od an : Option Addr} {osl : Array (Option Value)} {kV doc pm ct : Value} (m : PySem.W.makesIn K CB = true) (i : PySem.W.findIn K (.ref CB) "__init__" = some (some (.ref f))) (n : PySem.W.isFn K (.ref f) = true) (k : PySem.W.keepIn K (.ref CB) = true)
    (l : K.lookup f = some ⟨oc, od, .func (PySem.W.fnOf "__init__" qual (defArgs st) (defBody st) (defScope st) .none kV doc pm an (.ref c) ct), osl⟩) (cd : PySem.W.codeIn K (.ref c) qual = true) : InitAtC K CB qual st c :=
  ⟨f, oc, od, kV, doc, pm, an, ct, osl, ⟨m, i, n, k⟩, l, cd⟩
end
end N
namespace N
open PySem PySem.Spec PyProof.Rows L2
theorem wtup {K : PySem.W.Frag} {a : Addr} {od : Option Addr} {its : List Value} {n : Nat} {sl : Array (Option Value)} {xs : List V} (l : K.lookup a = some ⟨.type "tuple", od, .seq its.toArray n, sl⟩) (v : Vals xs its) (z : its.length ≤ sizeLine) : ∀ H, SqT K H a xs :=
  fun H => .inr ⟨_, its.toArray, n, l, rfl, rfl, by rw [List.size_toArray]; exact z, v⟩
theorem usualT_mk {K : PySem.W.Frag} {mg : Str → Option Value} {h : Heap} {aU u0 u1 u2 u3 u4 u5 u6 u7 u8 u9 : Addr} {d0 d1 d2 d3 d4 d5 d6 d7 d8 d9 : Option Addr} {z0 z1 z2 z3 z4 z5 z6 z7 z8 z9 : Nat} {s0 s1 s2 s3 s4 s5 s6 s7 s8 s9 : Array (Option Value)} {k00 k01 k02 k03 k04 k10 k11 k12 k13 k14 k20 k21 k22 k23 k24 k30 k31 k32 k33 k34 k40 k41 k42 k43 k44 k50 k51 k52 k53 k54 k60 k61 k62 k63 k64 k70 k71 k72 k74 k80 k81 k82 k84 k90 k91 k92 k93 k94 : Tok} {dU : Option Addr} {zU : Nat} {sU : Array (Option Value)} (X : K.In h) (G : h.Ns mainGlobals mg)
    (g : PySem.W.nsIn K mainGlobals "_USUAL" = some (some (.ref aU))) (l : K.lookup aU = some ⟨.type "tuple", dU, .seq ([.ref u0, .ref u1, .ref u2, .ref u3, .ref u4, .ref u5, .ref u6, .ref u7, .ref u8, .ref u9] : List Value).toArray zU, sU⟩)
    (l0 : K.lookup u0 = some ⟨.type "tuple", d0, .seq ([.str "k" k00, .int 1 k01, .int 1 k02, .str "p" k03, .str "k" k04] : List Value).toArray z0, s0⟩)
    (l1 : K.lookup u1 = some ⟨.type "tuple", d1, .seq ([.str "p" k10, .int 1 k11, .int 1 k12, .str "k" k13, .str "p" k14] : List Value).toArray z1, s1⟩)
    (l2 : K.lookup u2 = some ⟨.type "tuple", d2, .seq ([.str "yo" k20, .int 0 k21, .int 1 k22, .str "yo" k23, .str "yo" k24] : List Value).toArray z2, s2⟩)
    (l3 : K.lookup u3 = some ⟨.type "tuple", d3, .seq ([.str "ktog" k30, .int 2 k31, .int 1 k32, .str "ptog" k33, .str "ssk" k34] : List Value).toArray z3, s3⟩)
    (l4 : K.lookup u4 = some ⟨.type "tuple", d4, .seq ([.str "ssk" k40, .int 2 k41, .int 1 k42, .str "ssp" k43, .str "ktog" k44] : List Value).toArray z4, s4⟩)
    (l5 : K.lookup u5 = some ⟨.type "tuple", d5, .seq ([.str "ptog" k50, .int 2 k51, .int 1 k52, .str "ktog" k53, .str "ssp" k54] : List Value).toArray z5, s5⟩)
    (l6 : K.lookup u6 = some ⟨.type "tuple", d6, .seq ([.str "ssp" k60, .int 2 k61, .int 1 k62, .str "ssk" k63, .str "ptog" k64] : List Value).toArray z6, s6⟩)
    (l7 : K.lookup u7 = some ⟨.type "tuple", d7, .seq ([.str "cdd" k70, .int 3 k71, .int 1 k72, .none, .str "cdd" k74] : List Value).toArray z7, s7⟩)
    (l8 : K.lookup u8 = some ⟨.type "tuple", d8, .seq ([.str "kfb" k80, .int 1 k81, .int 2 k82, .none, .str "kfb" k84] : List Value).toArray z8, s8⟩)
    (l9 : K.lookup u9 = some ⟨.type "tuple", d9, .seq ([.str "bo" k90, .int 1 k91, .int 0 k92, .str "bo" k93, .str "bo" k94] : List Value).toArray z9, s9⟩) : UsualT K mg :=
  ⟨aU, [u0, u1, u2, u3, u4, u5, u6, u7, u8, u9], PySem.W.mg_of X G g, wtup l (.cons rfl (.cons rfl (.cons rfl (.cons rfl (.cons rfl (.cons rfl (.cons rfl (.cons rfl (.cons rfl (.cons rfl (.nil))))))))))) (by show 10 ≤ sizeLine; decide), .cons (wtup l0 (.cons ⟨_, rfl⟩ (.cons ⟨_, rfl⟩ (.cons ⟨_, rfl⟩ (.cons ⟨_, rfl⟩ (.cons ⟨_, rfl⟩ (.nil)))))) (by show 5 ≤ sizeLine; decide)) (.cons (wtup l1 (.cons ⟨_, rfl⟩ (.cons ⟨_, rfl⟩ (.cons ⟨_, rfl⟩ (.cons ⟨_, rfl⟩ (.cons ⟨_, rfl⟩ (.nil)))))) (by show 5 ≤ sizeLine; decide)) (.cons (wtup l2 (.cons ⟨_, rfl⟩ (.cons ⟨_, rfl⟩ (.cons ⟨_, rfl⟩ (.cons ⟨_, rfl⟩ (.cons ⟨_, rfl⟩ (.nil)))))) (by show 5 ≤ sizeLine; decide)) (.cons (wtup l3 (.cons ⟨_, rfl⟩ (.cons ⟨_, rfl⟩ (.cons ⟨_, rfl⟩ (.cons ⟨_, rfl⟩ (.cons ⟨_, rfl⟩ (.nil)))))) (by show 5 ≤ sizeLine; decide)) (.cons (wtup l4 (.cons ⟨_, rfl⟩ (.cons ⟨_, rfl⟩ (.cons ⟨_, rfl⟩ (.cons ⟨_, rfl⟩ (.cons ⟨_, rfl⟩ (.nil)))))) (by show 5 ≤ sizeLine; decide)) (.cons (wtup l5 (.cons ⟨_, rfl⟩ (.cons ⟨_, rfl⟩ (.cons ⟨_, rfl⟩ (.cons ⟨_, rfl⟩ (.cons ⟨_, rfl⟩ (.nil)))))) (by show 5 ≤ sizeLine; decide)) (.cons (wtup l6 (.cons ⟨_, rfl⟩ (.cons ⟨_, rfl⟩ (.cons ⟨_, rfl⟩ (.cons ⟨_, rfl⟩ (.cons ⟨_, rfl⟩ (.nil)))))) (by show 5 ≤ sizeLine; decide)) (.cons (wtup l7 (.cons ⟨_, rfl⟩ (.cons ⟨_, rfl⟩ (.cons ⟨_, rfl⟩ (.cons rfl (.cons ⟨_, rfl⟩ (.nil)))))) (by show 5 ≤ sizeLine; decide)) (.cons (wtup l8 (.cons ⟨_, rfl⟩ (.cons ⟨_, rfl⟩ (.cons ⟨_, rfl⟩ (.cons rfl (.cons ⟨_, rfl⟩ (.nil)))))) (by show 5 ≤ sizeLine; decide)) (.cons (wtup l9 (.cons ⟨_, rfl⟩ (.cons ⟨_, rfl⟩ (.cons ⟨_, rfl⟩ (.cons ⟨_, rfl⟩ (.cons ⟨_, rfl⟩ (.nil)))))) (by show 5 ≤ sizeLine; decide)) (.nil))))))))))⟩
end N
namespace N
open PySem L2
def spLaw (K : PySem.W.Frag) (T : List (Addr × Str)) : Sp := fun vs H Q _ => ∃ (a : Addr) (ns : List Int), vs = [.ref a] ∧ SqL K H a (ns.map V.int) ∧ ns.length ≤ 63 ∧ LamX.Tabs T H ∧ ∀ H', Q (.bl true) H'
theorem seq_ext {K : PySem.W.Frag} {H H' : Hp} {a : Addr} {xs : List V} (h : SqL K H a xs) (e : LamX.ExtN H H') : SqL K H' a xs :=
  h.elim (fun h => .inl (h.elim (fun h => .inl (e _ _ h fun _ z => by cases z)) fun ⟨o, h⟩ => .inr ⟨o, e _ _ h fun _ z => by cases z⟩)) fun h => .inr h
theorem ext_of_xb {p : Addr} {H H1 H2 : Hp} (np : H p = none) (s : Same H H1) (e : XB p H1 H2) : LamX.ExtN H H2 := fun b o h n => e b o (s b o h) (ne_of_none h np) n
section
variable {P : Program} {w : World} {K : PySem.W.Frag} {mg : Str → Option Value} {base : Heap} {C CB : Addr} {Cs Es : Nat → Addr}
abbrev s_law : Stmt := top 56
theorem sc_law : FnScope ["_law_script", "_law_k"] ["_law_script"] (defScope s_law) := ⟨rfl, rfl, rfl, by decide +kernel, rfl, by decide +kernel, by decide +kernel⟩
theorem ok_law {f : Addr} {fd : FuncData} {T : List (Addr × Str)} (B : Blts mg) (F : Fun K "law" "law" s_law f fd) (h_law_right : HasG P w K mg base "_law_right" 11 ["_law_pot_here"] (spRight T)) (h_law_pot : Has P w K mg base "_law_pot" 1 ["_law_script", "_law_k"] (spPot K)) : FnG P w K mg base CX0 12 f fd ["_law_script"] (spLaw K T) := by
  refine F.okG sc_law (fun vs H Q E h => ?_) (fun cdv A outer s H vs Q E hG hr h => ?_)
  · obtain ⟨_, _, rfl, _⟩ := h
    rfl
  · obtain ⟨a, ns, rfl, hS, hn, ht, k⟩ := h
    refine ⟨_, (pss_one (ps_ret (pe_callB (cr_all rfl) (by rfl) B.n_all (by decide +kernel) (pa_cons (pe_lc (own := [("_law_k", 1)]) rfl sc_law.nd (pi_range1 (by rfl) B.n_range (pa_cons (pe_callB (call_max2 rfl) (by rfl) B.n_max (by decide +kernel) (pa_cons pe_int (pa_cons (pe_callB (call_min2 rfl) (by rfl) B.n_min (by decide +kernel) (pa_cons pe_int (pa_cons (pe_callB call_len (by rfl) B.n_len PySem.boot_len (pa_cons (pv 0) pa_nil)) pa_nil))) pa_nil))) pa_nil)) (blkOk_by (own := [("_law_k", 1)]) (N := ["_law_script", "_law_k"]) (sc := defScope s_law) (by decide +kernel)) (fun _ _ _ _ _ => by exact (pg_name (i := 1) sc_law.nd rfl (Or.inl rfl))) (fun _ _ _ _ _ => by exact pts_nil) (fun _ _ _ _ _ => by exact (pe_hasG h_law_right (hr.mono (by decide)) hG (pa_cons (pe_has h_law_pot (hr.mono (by decide)) (pa_cons (pv 0) (pa_cons (pv 1) pa_nil))) pa_nil)))) pa_nil)))), ?_⟩
    obtain ⟨n, hn0, hn1, hne⟩ : ∃ n : Nat, n < 1000 ∧ n ≤ 63 ∧ (if (if (ns.length : Int) < (4 : Int) then (ns.length : Int) else (4 : Int)) > 1 then (if (ns.length : Int) < (4 : Int) then (ns.length : Int) else (4 : Int)) else 1) = (n : Int) := by
      refine ⟨(if (if (ns.length : Int) < (4 : Int) then (ns.length : Int) else (4 : Int)) > 1 then (if (ns.length : Int) < (4 : Int) then (ns.length : Int) else (4 : Int)) else 1).toNat, ?_, ?_, ?_⟩ <;> (repeat' split) <;> omega
    refine ⟨_, rfl, _, ns.length, rfl, .inl ⟨_, hS, by rw [List.length_map]⟩, _, _, rfl, _, _, rfl, ?_⟩
    rw [hne]
    refine ⟨_, rfl, by omega, by omega, fun D nD => ?_⟩
    rw [Int.toNat_natCast]
    refine lc_it walk_range (fun i Hh => LamX.ExtN H Hh ∧ LamX.Tabs T Hh ∧ Hh D = some (.lst ((List.range i).map fun _ => V.bl true))) ⟨LamX.ExtN.of (Same.new nD), fun z hz => (ht z hz).ext (Same.new nD), upd_same⟩ (fun _ _ _ _ => trivial) ?_ (fun Hz q => ?_)
    · rintro i x H1 H2 hi ⟨e1, t1, hD⟩ ⟨rfl, rfl⟩
      refine ⟨rfl, ?_⟩
      simp only [tYes, if_true]
      refine ⟨_, rfl, _, rfl, a, ns, i, ?_, seq_ext hS e1, hn, by omega, fun q H3 nq hp s3 => ?_⟩
      · show [V.ref a, V.int (0 + (i : Int))] = _
        rw [Int.zero_add]
      · have hD3 := s3 _ _ hD
        refine ⟨q, rfl, hp, fun z hz => (t1 z hz).ext s3, fun H4 hp4 x4 t4 => ?_⟩
        have Dq : D ≠ q := ne_of_none hD nq
        have hD4 := x4 _ _ hD3 Dq (fun _ z => by cases z)
        have e4 : LamX.ExtN H H4 := e1.trans (ext_of_xb nq s3 x4)
        refine ⟨_, hD4, by rw [List.length_map, List.length_range, sizeLine_eq]; omega, fun b o hb n => (upd_ne (ne_of_none hb nD)).trans (e4 b o hb n), tabs_lst t4 hD4, ?_⟩
        rw [List.range_succ, List.map_append]
        exact upd_same
    · obtain ⟨e1, t1, hD⟩ := q
      refine ⟨D, (List.range n).map fun _ => true, rfl, SqL.of (by rw [List.map_map]; exact hD), ?_⟩
      rw [show ((List.range n).map fun _ => true).all id = true by simp]
      exact k _
def tri (a b c : Addr) : Nat → Addr
  | 0 => a
  | 1 => b
  | _ => c
def duo (a b : Addr) : Nat → Addr
  | 0 => a
  | _ => b
abbrev n1 : Str := (("Book.__init__" : Str) ++ ".<locals>." ++ "<lambda>")
abbrev n2 : Str := (("_law_odd_right" : Str) ++ ".<locals>." ++ "<lambda>")
theorem all_ok {f : Addr} {fd : FuncData} {c1 c2 Q1 Q2 b0 b1 e0 e1 pU gU : Addr} {mc : Value} (B : Blts mg) (G : Globs mg) (T : KindT K mg C Cs) (U : BookT K mg CB) (TB1 : LamX.TabB base mg c1 Q1) (TB2 : LamX.TabB base mg c2 Q2) (nq : Q1 ≠ Q2)
    (TN : NoC K mg "NoBack" b0 s_NoBack___init__ "NoBack.__init__") (TM : NoC K mg "NoMirror" b1 s_NoMirror___init__ "NoMirror.__init__") (TW : WoC K mg e0 s_InvalidWord___init__) (TU : NoC K mg "UnknownKind" e1 s_UnknownKind___init__ "UnknownKind.__init__")
    (x00 : PySem.W.exmOne K (.ref b0) (.ref b0) = some true) (x10 : PySem.W.exmOne K (.ref b1) (.ref b0) = some false) (x11 : PySem.W.exmOne K (.ref b1) (.ref b1) = some true)
    (y00 : PySem.W.exmOne K (.ref e0) (.ref e0) = some true) (y01 : PySem.W.exmOne K (.ref e0) (.ref e1) = some false) (y10 : PySem.W.exmOne K (.ref e1) (.ref e0) = some false) (y11 : PySem.W.exmOne K (.ref e1) (.ref e1) = some true)
    (neB : PySem.W.findIn K (.ref CB) "__ne__" = some (some (.builtin "object.__ne__"))) (neK : PySem.W.findIn K (.ref C) "__ne__" = some (some (.builtin "object.__ne__"))) (sD : PySem.W.subIn K (.type "dict") (.ref CB) = some false) (sL : PySem.W.subIn K (.type "list") (.ref CB) = some false)
    (g_MK : ∃ t, mg "_MOST_KINDS" = some (.int 24 t)) (UT : UsualT K mg) (CR : ClX.CRead K CB mc) (CU : ClsAt K CB mc "usual" "Book.usual" s_Book_usual pU gU)
    (I : InitAt K mg "Kind" C "Kind.__init__" s_Kind___init__ [] [("back", .non), ("mirror", .non), ("yarn", .int 1)]) (FI : InitAtC K CB "Book.__init__" s_Book___init__ c1) (FT : FunAtC K mg "_law_odd_right" "_law_odd_right" s__law_odd_right c2)
    (F1 : FunAt K mg "is_integer" "is_integer" s_is_integer) (F2 : FunAt K mg "is_count" "is_count" s_is_count) (F3 : FunAt K mg "is_count_to" "is_count_to" s_is_count_to) (F4 : FunAt K mg "is_name" "is_name" s_is_name) (F5 : FunAt K mg "_numbers_and_names" "_numbers_and_names" s__numbers_and_names) (F6 : FunAt K mg "_same_loops" "_same_loops" s__same_loops) (F7 : FunAt K mg "_is_back" "_is_back" s__is_back) (F8 : FunAt K mg "_is_mirror" "_is_mirror" s__is_mirror) (F9 : FunAt K mg "_both_agree" "_both_agree" s__both_agree) (F10 : FunAt K mg "_check_kinds" "_check_kinds" s__check_kinds) (F11 : FunAt K mg "_law_pot" "_law_pot" s__law_pot) (F12 : FunAt K mg "_law_draw" "_law_draw" s__law_draw) (F13 : FunAt K mg "_law_pick" "_law_pick" s__law_pick) (F14 : FunAt K mg "_law_mixed" "_law_mixed" s__law_mixed) (F15 : FunAt K mg "_law_group" "_law_group" s__law_group) (F16 : FunAt K mg "_law_book" "_law_book" s__law_book) (F17 : FunAt K mg "_law_real_book" "_law_real_book" s__law_real_book) (F18 : FunAt K mg "_law_takes" "_law_takes" s__law_takes) (F19 : FunAt K mg "_law_makes" "_law_makes" s__law_makes) (F20 : FunAt K mg "_law_word" "_law_word" s__law_word) (F21 : FunAt K mg "_law_usual_rows" "_law_usual_rows" s__law_usual_rows) (F22 : FunAt K mg "_law_row" "_law_row" s__law_row) (F23 : FunAt K mg "_law_is_like" "_law_is_like" s__law_is_like) (F24 : FunAt K mg "_law_told" "_law_told" s__law_told) (F25 : FunAt K mg "_law_due" "_law_due" s__law_due) (F26 : FunAt K mg "_law_word_right" "_law_word_right" s__law_word_right) (F27 : FunAt K mg "_law_heard" "_law_heard" s__law_heard) (F28 : FunAt K mg "_law_bent" "_law_bent" s__law_bent) (F29 : FunAt K mg "_law_equal_right" "_law_equal_right" s__law_equal_right) (F30 : FunAt K mg "_law_right" "_law_right" s__law_right)
    (P1 : PropAt K C "name" "Kind.name" s_Kind_name) (P2 : PropAt K C "takes" "Kind.takes" s_Kind_takes) (P3 : PropAt K C "makes" "Kind.makes" s_Kind_makes) (P4 : PropAt K C "back" "Kind.back" s_Kind_back) (P5 : PropAt K C "mirror" "Kind.mirror" s_Kind_mirror) (P6 : PropAt K C "yarn" "Kind.yarn" s_Kind_yarn)
    (M0 : MethAt K C "__eq__" "Kind.__eq__" s_Kind___eq__) (M1 : MethAt K CB "is_word" "Book.is_word" s_Book_is_word) (M2 : MethAt K CB "_kinds_of" "Book._kinds_of" s_Book__kinds_of) (M3 : MethAt K CB "taken" "Book.taken" s_Book_taken) (M4 : MethAt K CB "loops_made" "Book.loops_made" s_Book_loops_made) (M5 : MethAt K CB "made" "Book.made" s_Book_made) (M6 : MethAt K CB "yarn_of" "Book.yarn_of" s_Book_yarn_of) (M7 : MethAt K CB "__contains__" "Book.__contains__" s_Book___contains__) (M8 : MethAt K CB "kind" "Book.kind" s_Book_kind) (M9 : MethAt K CB "turned" "Book.turned" s_Book_turned) (M10 : MethAt K CB "mirrored" "Book.mirrored" s_Book_mirrored) (M11 : MethAt K CB "names" "Book.names" s_Book_names) (M12 : MethAt K CB "__len__" "Book.__len__" s_Book___len__) (M13 : MethAt K CB "__eq__" "Book.__eq__" s_Book___eq__)
    (F : Fun K "law" "law" s_law f fd) : FnG P w K mg base CX0 12 f fd ["_law_script"] (spLaw K [(Q1, n1), (Q2, n2)]) := by
  have hy : ∀ i j, i < 2 → j < 2 → PySem.W.exmOne K (.ref (duo e0 e1 i)) (.ref (duo e0 e1 j)) = some (decide (i = j)) := fun i j hi hj => by
    match i, hi, j, hj with
    | 0, _, 0, _ => exact y00
    | 0, _, 1, _ => exact y01
    | 1, _, 0, _ => exact y10
    | 1, _, 1, _ => exact y11
  have hi := h_is_integer (P := P) (w := w) (base := base) B F1
  have hc := h_is_count F2 hi
  have hct := h_is_count_to F3 hc
  have hn := h_is_name (P := P) (w := w) (base := base) B G F4
  have k3 := hKind3 B G T I hn hct
  have k2 := hKind2 B G T I hn hct
  have k1 := hKind1 B G T I hn hct
  have p1 := p_name (P := P) (w := w) (base := base) T P1
  have p2 := p_takes (P := P) (w := w) (base := base) T P2
  have p3 := p_makes (P := P) (w := w) (base := base) T P3
  have p4 := p_back (P := P) (w := w) (base := base) T P4
  have p5 := p_mirror (P := P) (w := w) (base := base) T P5
  have p6 := p_yarn (P := P) (w := w) (base := base) T P6
  have hrow := h_rows T F5 p1 p2 p3 p4 p5 p6
  have mE := m_eqK B T M0 hrow
  have hsl := h_same_loops T F6 p2 p3
  have hib := h_is_back T F7 p1 p4 hsl
  have him := h_is_mirror T F8 p1 p5 hsl
  have hba := h_both_agree T F9 p4 p5
  have hck := h_check_kinds T F10 p1 p4 p5 hib him hba
  have hd := h_law_draw (P := P) (w := w) (base := base) B F12
  have hk := h_law_pick (P := P) (w := w) (base := base) (K := K) B F13 hd
  have hm := h_law_mixed (P := P) (w := w) (base := base) (K := K) B F14 hd
  have hg := h_law_group (P := P) (w := w) (base := base) (K := K) B F15 hd
  have hbk := h_law_book (P := P) (w := w) (base := base) (K := K) B F16 hk hm hg
  have m1 := m_is_word (P := P) (w := w) (base := base) (C := C) B U M1
  have m1x := m_is_wordX (P := P) (w := w) (base := base) (C := C) B U M1
  have m2 := m_kinds_of (P := P) (w := w) (base := base) U M2 m1.m
  have m2x := m_kinds_ofX U TW M2 m1x
  have m3 := m_taken B U T M3 p2 m2
  have m4 := m_loops_made B U T M4 p3 m2
  have m5 := m_made U M5 m4
  have m6 := m_yarn_of B U T M6 p6 m2
  have m7 := m_contains (P := P) (w := w) (base := base) (C := C) B U M7
  have m7v := m_containsV (P := P) (w := w) (base := base) (C := C) B U M7
  have m8 := m_kind U M8 m7
  have m8x := m_kindX U TU M8 m7v
  have m9x := m_turnedX B U T TN M9 p1 p4 m2
  have m10x := m_mirroredX B U T TM M10 p1 p5 m2
  have o3 := m_takenO B U T M3 p2 m2x
  have o4 := m_loops_madeO B U T M4 p3 m2x
  have o5 := m_madeO B U T M5 o4
  have o6 := m_yarn_ofO B U T M6 p6 m2x
  have o9 := m_turnedO B U T M9 p4 m2x
  have o10 := m_mirroredO B U T M10 p5 m2x
  have m11 := m_names (P := P) (w := w) (base := base) (C := C) U T M11 p1
  have m12 := m_len (P := P) (w := w) (base := base) (C := C) B U M12
  have m13 := m_eqB B U M13 mE
  have in1 : (Q1, n1) ∈ [(Q1, n1), (Q2, n2)] := .head _
  have in2 : (Q2, n2) ∈ [(Q1, n1), (Q2, n2)] := .tail _ (.head _)
  have u1 : ∀ p ∈ [(Q1, n1), (Q2, n2)], p.1 = Q1 → p.2 = n1 := fun p hp e => by
    rcases List.mem_cons.mp hp with rfl | hp
    · rfl
    · rw [List.mem_singleton.mp hp] at e
      exact absurd e.symm nq
  have u2 : ∀ p ∈ [(Q1, n1), (Q2, n2)], p.1 = Q2 → p.2 = n2 := fun p hp e => by
    rcases List.mem_cons.mp hp with rfl | hp
    · exact absurd e nq
    · rw [List.mem_singleton.mp hp]
  obtain ⟨fB, MB, FB⟩ := b_init (T := [(Q1, n1), (Q2, n2)]) B T U g_MK FI P1 p1 TB1 in1 u1 hck
  have FU := c_usual B T U UT CU k2 MB FB
  obtain ⟨_, CM, _⟩ := CU.ex
  have hrb := h_law_real_book B T U F17 k3 MB FB
  have hta := h_law_takes (P := P) (w := w) (base := base) (K := K) B F18
  have hma := h_law_makes (P := P) (w := w) (base := base) (K := K) B F19
  have hwo := h_law_word (P := P) (w := w) (base := base) (K := K) B F20 hd hk
  have hus := h_law_usual_rows (P := P) (w := w) (base := base) (K := K) F21
  have hro := h_law_row T F22 p2 p3 p4 p5 p6
  have hli := h_law_is_likeP B U T F23 m11 m8 m7v m12 p1 hro
  have hto := h_law_told U TN TM x00 x10 x11 F24 m9x m10x
  have hdu := h_law_due (P := P) (w := w) (base := base) (K := K) B F25
  have hwr := h_law_word_right B U F26 m1.m m1x m3 m5 m6 hta hma hto hdu
  have hod := h_law_odd_right (Es := duo e0 e1) (T := [(Q1, n1), (Q2, n2)]) B U FT F27 TB2 in2 u2 TW TU hy o3 o5 o6 o9 o10 m8x m1x m1.m
  have hbe := h_law_bent (P := P) (w := w) (base := base) (K := K) B F28
  have heq := h_law_equal_right B U T F29 neB neK sD sL hd hm hrb hbe m8 m13 mE
  exact ok_law B F (h_law_right B U T F30 neB CR CM FU MB FB k1 hk hbk hrb hus hli heq hod hwr hwo hto m11 m12 m13) (h_law_pot B F11)
end
theorem all_mk {l : PySem.W.OpenLaw} {w : World} {K : PySem.W.Frag} {h : Heap} {mg : Str → Option Value} {fa f C CB c1 c2 Q1 Q2 a0 a1 a2 b0 b1 e0 e1 pU gU : Addr} {mc : Value} (X : K.In h) (G : h.Ns mainGlobals mg) (hfa : mg "law" = some (.ref fa)) (nq : Q1 ≠ Q2)
    (tab1 : h.get? Q1 = some emptyTab) (tab2 : h.get? Q2 = some emptyTab) (loose1 : K.lookup Q1 = none) (loose2 : K.lookup Q2 = none) (code1 : PySem.W.codeHdIn K c1 Q1 = true) (code2 : PySem.W.codeHdIn K c2 Q2 = true)
    {od an : Option Addr} {sl : Array (Option Value)} {oc kV dc pm cd ct : Value}
    (a : PySem.W.nsIn K mainGlobals "law" = some (some (.ref f))) (lk : K.lookup f = some ⟨oc, od, .func (PySem.W.fnOf "law" "law" (defArgs s_law) (defBody s_law) (defScope s_law) .none kV dc pm an cd ct), sl⟩) (co : PySem.W.codeIn K cd "law" = true) (k : PySem.W.keepIn K (.ref f) = true)
    (B : Blts mg) (Gl : Globs mg) (own : OwnC K C) (n0 : NoAttr K C "_name") (n1' : NoAttr K C "_takes") (n2' : NoAttr K C "_makes") (n3 : NoAttr K C "_back") (n4 : NoAttr K C "_mirror") (n5 : NoAttr K C "_yarn") (gK : mg "Kind" = some (.ref C))
    (E0 : ErrC K mg "InvalidName" "value" a0 s_InvalidName___init__ "InvalidName.__init__") (E1 : ErrC K mg "InvalidNumber" "value" a1 s_InvalidNumber___init__ "InvalidNumber.__init__") (E2 : ErrC K mg "InvalidKind" "value" a2 s_InvalidKind___init__ "InvalidKind.__init__")
    (ownB : OwnC K CB) (nk : NoAttr K CB "_kinds") (nt : NoAttr K CB "_table") (gB : mg "Book" = some (.ref CB)) (gN : ∃ t, mg "_MOST_NAMES" = some (.int 240 t))
    (TN : NoC K mg "NoBack" b0 s_NoBack___init__ "NoBack.__init__") (TM : NoC K mg "NoMirror" b1 s_NoMirror___init__ "NoMirror.__init__") (TW : WoC K mg e0 s_InvalidWord___init__) (TU : NoC K mg "UnknownKind" e1 s_UnknownKind___init__ "UnknownKind.__init__")
    (x00 : PySem.W.exmOne K (.ref b0) (.ref b0) = some true) (x10 : PySem.W.exmOne K (.ref b1) (.ref b0) = some false) (x11 : PySem.W.exmOne K (.ref b1) (.ref b1) = some true)
    (y00 : PySem.W.exmOne K (.ref e0) (.ref e0) = some true) (y01 : PySem.W.exmOne K (.ref e0) (.ref e1) = some false) (y10 : PySem.W.exmOne K (.ref e1) (.ref e0) = some false) (y11 : PySem.W.exmOne K (.ref e1) (.ref e1) = some true)
    (neB : PySem.W.findIn K (.ref CB) "__ne__" = some (some (.builtin "object.__ne__"))) (neK : PySem.W.findIn K (.ref C) "__ne__" = some (some (.builtin "object.__ne__"))) (sD : PySem.W.subIn K (.type "dict") (.ref CB) = some false) (sL : PySem.W.subIn K (.type "list") (.ref CB) = some false)
    (g_MK : ∃ t, mg "_MOST_KINDS" = some (.int 24 t)) (UT : UsualT K mg) (CR : ClX.CRead K CB mc) (CU : ClsAt K CB mc "usual" "Book.usual" s_Book_usual pU gU)
    (I : InitAt K mg "Kind" C "Kind.__init__" s_Kind___init__ [] [("back", .non), ("mirror", .non), ("yarn", .int 1)]) (FI : InitAtC K CB "Book.__init__" s_Book___init__ c1) (FT : FunAtC K mg "_law_odd_right" "_law_odd_right" s__law_odd_right c2)
    (F1 : FunAt K mg "is_integer" "is_integer" s_is_integer) (F2 : FunAt K mg "is_count" "is_count" s_is_count) (F3 : FunAt K mg "is_count_to" "is_count_to" s_is_count_to) (F4 : FunAt K mg "is_name" "is_name" s_is_name) (F5 : FunAt K mg "_numbers_and_names" "_numbers_and_names" s__numbers_and_names) (F6 : FunAt K mg "_same_loops" "_same_loops" s__same_loops) (F7 : FunAt K mg "_is_back" "_is_back" s__is_back) (F8 : FunAt K mg "_is_mirror" "_is_mirror" s__is_mirror) (F9 : FunAt K mg "_both_agree" "_both_agree" s__both_agree) (F10 : FunAt K mg "_check_kinds" "_check_kinds" s__check_kinds) (F11 : FunAt K mg "_law_pot" "_law_pot" s__law_pot) (F12 : FunAt K mg "_law_draw" "_law_draw" s__law_draw) (F13 : FunAt K mg "_law_pick" "_law_pick" s__law_pick) (F14 : FunAt K mg "_law_mixed" "_law_mixed" s__law_mixed) (F15 : FunAt K mg "_law_group" "_law_group" s__law_group) (F16 : FunAt K mg "_law_book" "_law_book" s__law_book) (F17 : FunAt K mg "_law_real_book" "_law_real_book" s__law_real_book) (F18 : FunAt K mg "_law_takes" "_law_takes" s__law_takes) (F19 : FunAt K mg "_law_makes" "_law_makes" s__law_makes) (F20 : FunAt K mg "_law_word" "_law_word" s__law_word) (F21 : FunAt K mg "_law_usual_rows" "_law_usual_rows" s__law_usual_rows) (F22 : FunAt K mg "_law_row" "_law_row" s__law_row) (F23 : FunAt K mg "_law_is_like" "_law_is_like" s__law_is_like) (F24 : FunAt K mg "_law_told" "_law_told" s__law_told) (F25 : FunAt K mg "_law_due" "_law_due" s__law_due) (F26 : FunAt K mg "_law_word_right" "_law_word_right" s__law_word_right) (F27 : FunAt K mg "_law_heard" "_law_heard" s__law_heard) (F28 : FunAt K mg "_law_bent" "_law_bent" s__law_bent) (F29 : FunAt K mg "_law_equal_right" "_law_equal_right" s__law_equal_right) (F30 : FunAt K mg "_law_right" "_law_right" s__law_right)
    (P1 : PropAt K C "name" "Kind.name" s_Kind_name) (P2 : PropAt K C "takes" "Kind.takes" s_Kind_takes) (P3 : PropAt K C "makes" "Kind.makes" s_Kind_makes) (P4 : PropAt K C "back" "Kind.back" s_Kind_back) (P5 : PropAt K C "mirror" "Kind.mirror" s_Kind_mirror) (P6 : PropAt K C "yarn" "Kind.yarn" s_Kind_yarn)
    (M0 : MethAt K C "__eq__" "Kind.__eq__" s_Kind___eq__) (M1 : MethAt K CB "is_word" "Book.is_word" s_Book_is_word) (M2 : MethAt K CB "_kinds_of" "Book._kinds_of" s_Book__kinds_of) (M3 : MethAt K CB "taken" "Book.taken" s_Book_taken) (M4 : MethAt K CB "loops_made" "Book.loops_made" s_Book_loops_made) (M5 : MethAt K CB "made" "Book.made" s_Book_made) (M6 : MethAt K CB "yarn_of" "Book.yarn_of" s_Book_yarn_of) (M7 : MethAt K CB "__contains__" "Book.__contains__" s_Book___contains__) (M8 : MethAt K CB "kind" "Book.kind" s_Book_kind) (M9 : MethAt K CB "turned" "Book.turned" s_Book_turned) (M10 : MethAt K CB "mirrored" "Book.mirrored" s_Book_mirrored) (M11 : MethAt K CB "names" "Book.names" s_Book_names) (M12 : MethAt K CB "__len__" "Book.__len__" s_Book___len__) (M13 : MethAt K CB "__eq__" "Book.__eq__" s_Book___eq__) :
    LawGT l w K 12 63 "_law_script" mg fa h := by
  have e := hfa.symm.trans (PySem.W.mg_of X G a)
  cases e
  have T : KindT K mg C (tri a0 a1 a2) := ⟨own, n0, n1', n2', n3, n4, n5, gK, E0, E1, E2⟩
  have U : BookT K mg CB := ⟨ownB, nk, nt, gB, gN⟩
  have two : ∀ {p : Addr × Addr}, p ∈ [(c1, Q1), (c2, Q2)] → p = (c1, Q1) ∨ p = (c2, Q2) := fun h => (List.mem_cons.mp h).imp id fun h => List.mem_singleton.mp h
  refine ⟨PySem.W.fnOf "law" "law" (defArgs s_law) (defBody s_law) (defScope s_law) .none kV dc pm an cd ct, [(c1, Q1), (c2, Q2)], spLaw K [(Q1, n1), (Q2, n2)], fun p hp => ?_, fun p hp => ?_, fun p hp => ?_, fun s v => .of_eq rfl, fun H aa ns hl h1 h2 => ?_, fun base _ _ tb => ?_⟩
  · rcases two hp with e | e <;> rw [e]
    · exact tab1
    · exact tab2
  · rcases two hp with e | e <;> rw [e]
    · exact loose1
    · exact loose2
  · rcases two hp with e | e <;> rw [e]
    · exact PySem.W.codeHd_of_K X code1
    · exact PySem.W.codeHd_of_K X code2
  · refine ⟨aa, ns, rfl, h2, hl, fun p hp => ?_, fun _ => rfl⟩
    rcases List.mem_cons.mp hp with e | hp
    · rw [e]
      exact LamX.TabS.nil (h1 (c1, Q1) (.head _))
    · rw [List.mem_singleton.mp hp]
      exact LamX.TabS.nil (h1 (c2, Q2) (.tail _ (.head _)))
  · exact all_ok B Gl T U (tb (c1, Q1) (.head _)) (tb (c2, Q2) (.tail _ (.head _))) nq TN TM TW TU x00 x10 x11 y00 y01 y10 y11 neB neK sD sL g_MK UT CR CU I FI FT F1 F2 F3 F4 F5 F6 F7 F8 F9 F10 F11 F12 F13 F14 F15 F16 F17 F18 F19 F20 F21 F22 F23 F24 F25 F26 F27 F28 F29 F30 P1 P2 P3 P4 P5 P6 M0 M1 M2 M3 M4 M5 M6 M7 M8 M9 M10 M11 M12 M13 (fun_mk (st := s_law) lk co k)
end N

open PySem PySem.W PyProof.Rows
set_option maxRecDepth 100000 in
set_option maxHeartbeats 0 in
open_top hd for PySem.Challenge.rw_stitchsizes_k16_whole_books_and_words_tu

namespace N
open PySem PySem.Spec PyProof.Rows L2
theorem clsAt_mk {K : PySem.W.Frag} {C p g : Addr} {mc : Value} {m qual : Str} {st : Stmt} {rest : List Value} {oc : Value} {od an : Option Addr} {osl : Array (Option Value)} {kV doc pm cdv ct : Value} (a : PySem.W.findCls K (.ref C) mc m = some (.get (.builtin "classmethod.__get__") (.ref p) .none (.ref C))) (r : PySem.W.recIn K p "classmethod" = some (.ref g :: rest)) (f : PySem.W.fnIn K g = true)
    (l : K.lookup g = some ⟨oc, od, .func (PySem.W.fnOf m qual (defArgs st) (defBody st) (defScope st) .none kV doc pm an cdv ct), osl⟩) (c : PySem.W.codeIn K cdv qual = true) (k : PySem.W.keepIn K (.ref g) = true) : ClsAt K C mc m qual st p g := ⟨_, ⟨a, ⟨rest, r⟩, f⟩, fun_mk l c k⟩
end N
open PySem PySem.W PyProof.Rows
theorem L2.km_none {K : Params → PySem.W.Frag} {as : List Addr} {e : ∀ P, as = (K P).map (·.1)} {ts : List Addr} {w : World} {h : Heap} (_ : (PySem.W.kmHook K as e ts).says w h) {a : Addr} (n : as.contains a = false) : (K w.params).lookup a = none := by
  have q : ∀ l : List (Addr × Obj), (l.map (·.1)).contains a = false → l.lookup a = none := by
    intro l
    induction l with
    | nil => intro _; rfl
    | cons p r ih =>
      intro z
      obtain ⟨b, o⟩ := p
      simp only [List.map_cons, List.contains_cons, Bool.or_eq_false_iff] at z
      simp only [List.lookup, z.1]
      exact ih z.2
  exact q _ (e w.params ▸ n)
theorem L2.codeHd_mk {K : PySem.W.Frag} {c P : Addr} {od : Option Addr} {vs : Array Value} {sl : Array (Option Value)} (l : K.lookup c = some ⟨.type "code", od, .fields vs, sl⟩) (h11 : (vs[11]? : Option Value) = some (.ref P)) (h18 : ∃ a b, vs.getD 18 .none = .str a b)
    (h7 : ∃ a b, vs.getD 7 .none = .int a b) (h9 : ∃ a, vs.getD 9 .none = .bool a) (h10 : ∃ a b, vs.getD 10 .none = .int a b) (hne : (c != P) = true) : PySem.W.codeHdIn K c P = true := by
  obtain ⟨_, _, e18⟩ := h18
  obtain ⟨_, _, e7⟩ := h7
  obtain ⟨_, e9⟩ := h9
  obtain ⟨_, _, e10⟩ := h10
  unfold PySem.W.codeHdIn
  simp [l, h11, e18, e7, e9, e10]
  simpa using hne
set_option maxRecDepth 100000 in
set_option maxHeartbeats 0 in
theorem PySem.Challenge.cw_stitchsizes_k16_whole_books_and_words_tu_holds : PySem.Challenge.rw_stitchsizes_k16_whole_books_and_words_tu.Holds := by
  refine hd ?hc
  k_fill
  refine L2.walk_ofGT (l := PySem.Challenge.rw_stitchsizes_k16_whole_books_and_words_tu) (n := 63) (k := 12) (x := "_law_script") rfl (by decide) rfl ⟨rfl, by decide, by decide⟩ (fun w h Y => PySem.W.km_in_of Y) ?F
  case F =>
    intro w mg fa h Y KX G hmg
    have tab1 := PySem.W.km_tabs_of Y 363 (.tail _ (.head _))
    have tab2 := PySem.W.km_tabs_of Y 612 (.head _)
    refine' N.all_mk (mc := .type "type") (Q1 := 363) (Q2 := 612) KX G hmg (by decide) tab1 tab2 ?loose1 ?loose2 ?code1 ?code2 ?a ?lk ?co ?k ?B ?Gl ?own ?n0 ?n1 ?n2 ?n3 ?n4 ?n5 ?gK ?E0 ?E1 ?E2 ?ownB ?nk ?nt ?gB ?gN ?TN ?TM ?TW ?TU ?x00 ?x10 ?x11 ?y00 ?y01 ?y10 ?y11 ?neB ?neK ?sD ?sL ?g_MK ?UT ?CR ?CU ?I ?FI ?FT ?F1 ?F2 ?F3 ?F4 ?F5 ?F6 ?F7 ?F8 ?F9 ?F10 ?F11 ?F12 ?F13 ?F14 ?F15 ?F16 ?F17 ?F18 ?F19 ?F20 ?F21 ?F22 ?F23 ?F24 ?F25 ?F26 ?F27 ?F28 ?F29 ?F30 ?P1 ?P2 ?P3 ?P4 ?P5 ?P6 ?M0 ?M1 ?M2 ?M3 ?M4 ?M5 ?M6 ?M7 ?M8 ?M9 ?M10 ?M11 ?M12 ?M13
    (case a => k_is)
    (case lk => k_is)
    (case co => k_is)
    (case k => k_is)
    (case B => exact ⟨PySem.W.mg_none_of KX G (by k_is), PySem.W.mg_none_of KX G (by k_is), PySem.W.mg_none_of KX G (by k_is), PySem.W.mg_none_of KX G (by k_is), PySem.W.mg_none_of KX G (by k_is), PySem.W.mg_none_of KX G (by k_is), PySem.W.mg_none_of KX G (by k_is), PySem.W.mg_none_of KX G (by k_is), PySem.W.mg_none_of KX G (by k_is), PySem.W.mg_none_of KX G (by k_is), PySem.W.mg_none_of KX G (by k_is), PySem.W.mg_none_of KX G (by k_is), PySem.W.mg_none_of KX G (by k_is), PySem.W.mg_none_of KX G (by k_is), PySem.W.mg_none_of KX G (by k_is), PySem.W.mg_none_of KX G (by k_is), PySem.W.mg_none_of KX G (by k_is), PySem.W.mg_none_of KX G (by k_is), PySem.W.mg_none_of KX G (by k_is), PySem.W.mg_none_of KX G (by k_is)⟩)
    (case Gl => exact ⟨⟨_, PySem.W.mg_of KX G (by k_is)⟩, ⟨_, PySem.W.mg_of KX G (by k_is)⟩, ⟨_, PySem.W.mg_of KX G (by k_is)⟩, ⟨_, PySem.W.mg_of KX G (by k_is)⟩⟩)
    (case gK => refine' PySem.W.mg_of KX G ?g; (case g => k_is))
    (case gB => refine' PySem.W.mg_of KX G ?g; (case g => k_is))
    (case gN => exact ⟨_, PySem.W.mg_of KX G (by k_is)⟩)
    (case g_MK => exact ⟨_, PySem.W.mg_of KX G (by k_is)⟩)
    (case own => refine' L2.ownC_mk ?t1 ?t2 ?t3 ?t4 ?t5 ?t6 ?t7 ?t8 ?t9 ?t10; (case t1 => k_is); (case t2 => k_is); (case t3 => k_is); (case t4 => k_is); (case t5 => k_is); (case t6 => k_is); (case t7 => k_is); (case t8 => k_is); (case t9 => k_is); (case t10 => k_is))
    (case ownB => refine' L2.ownC_mk ?t1 ?t2 ?t3 ?t4 ?t5 ?t6 ?t7 ?t8 ?t9 ?t10; (case t1 => k_is); (case t2 => k_is); (case t3 => k_is); (case t4 => k_is); (case t5 => k_is); (case t6 => k_is); (case t7 => k_is); (case t8 => k_is); (case t9 => k_is); (case t10 => k_is))
    (case n0 => unfold L2.NoAttr; k_is)
    (case n1 => unfold L2.NoAttr; k_is)
    (case n2 => unfold L2.NoAttr; k_is)
    (case n3 => unfold L2.NoAttr; k_is)
    (case n4 => unfold L2.NoAttr; k_is)
    (case n5 => unfold L2.NoAttr; k_is)
    (case nk => unfold L2.NoAttr; k_is)
    (case nt => unfold L2.NoAttr; k_is)
    (case E0 => refine' L2.errC_mk KX G ?aC ?xL ?rf ?sa ?ga ?gg ?nb ?kC ?eC ?tC ?hC ?a1 ?t1 ?l ?c ?k; (case aC => k_is); (case xL => k_is); (case rf => decide +kernel); (case sa => k_is); (case ga => k_is); (case gg => k_is); (case nb => k_is); (case kC => k_is); (case eC => k_is); (case tC => k_is); (case hC => k_is); (case a1 => k_is); (case t1 => k_is); (case l => k_is); (case c => k_is); (case k => k_is))
    (case E1 => refine' L2.errC_mk KX G ?aC ?xL ?rf ?sa ?ga ?gg ?nb ?kC ?eC ?tC ?hC ?a1 ?t1 ?l ?c ?k; (case aC => k_is); (case xL => k_is); (case rf => decide +kernel); (case sa => k_is); (case ga => k_is); (case gg => k_is); (case nb => k_is); (case kC => k_is); (case eC => k_is); (case tC => k_is); (case hC => k_is); (case a1 => k_is); (case t1 => k_is); (case l => k_is); (case c => k_is); (case k => k_is))
    (case E2 => refine' L2.errC_mk KX G ?aC ?xL ?rf ?sa ?ga ?gg ?nb ?kC ?eC ?tC ?hC ?a1 ?t1 ?l ?c ?k; (case aC => k_is); (case xL => k_is); (case rf => decide +kernel); (case sa => k_is); (case ga => k_is); (case gg => k_is); (case nb => k_is); (case kC => k_is); (case eC => k_is); (case tC => k_is); (case hC => k_is); (case a1 => k_is); (case t1 => k_is); (case l => k_is); (case c => k_is); (case k => k_is))
    (case TW => refine' L2.errC_mk KX G ?aC ?xL ?rf ?sa ?ga ?gg ?nb ?kC ?eC ?tC ?hC ?a1 ?t1 ?l ?c ?k; (case aC => k_is); (case xL => k_is); (case rf => decide +kernel); (case sa => k_is); (case ga => k_is); (case gg => k_is); (case nb => k_is); (case kC => k_is); (case eC => k_is); (case tC => k_is); (case hC => k_is); (case a1 => k_is); (case t1 => k_is); (case l => k_is); (case c => k_is); (case k => k_is))
    (case TN => refine' N.noC_mk KX G ?aC ?xL ?rf ?sa ?ga ?gg ?nb ?kC ?eC ?tC ?hC ?a1 ?t1 ?l ?c ?k; (case aC => k_is); (case xL => k_is); (case rf => decide +kernel); (case sa => k_is); (case ga => k_is); (case gg => k_is); (case nb => k_is); (case kC => k_is); (case eC => k_is); (case tC => k_is); (case hC => k_is); (case a1 => k_is); (case t1 => k_is); (case l => k_is); (case c => k_is); (case k => k_is))
    (case TM => refine' N.noC_mk KX G ?aC ?xL ?rf ?sa ?ga ?gg ?nb ?kC ?eC ?tC ?hC ?a1 ?t1 ?l ?c ?k; (case aC => k_is); (case xL => k_is); (case rf => decide +kernel); (case sa => k_is); (case ga => k_is); (case gg => k_is); (case nb => k_is); (case kC => k_is); (case eC => k_is); (case tC => k_is); (case hC => k_is); (case a1 => k_is); (case t1 => k_is); (case l => k_is); (case c => k_is); (case k => k_is))
    (case TU => refine' N.noC_mk KX G ?aC ?xL ?rf ?sa ?ga ?gg ?nb ?kC ?eC ?tC ?hC ?a1 ?t1 ?l ?c ?k; (case aC => k_is); (case xL => k_is); (case rf => decide +kernel); (case sa => k_is); (case ga => k_is); (case gg => k_is); (case nb => k_is); (case kC => k_is); (case eC => k_is); (case tC => k_is); (case hC => k_is); (case a1 => k_is); (case t1 => k_is); (case l => k_is); (case c => k_is); (case k => k_is))
    (case x00 => refine' L2.exm_mk ?h1 ?h2 ?h3 ?h4; (case h1 => k_is); (case h2 => k_is); (case h3 => k_is); (case h4 => first | rfl | k_is))
    (case x10 => refine' L2.exm_mk ?h1 ?h2 ?h3 ?h4; (case h1 => k_is); (case h2 => k_is); (case h3 => k_is); (case h4 => first | rfl | k_is))
    (case x11 => refine' L2.exm_mk ?h1 ?h2 ?h3 ?h4; (case h1 => k_is); (case h2 => k_is); (case h3 => k_is); (case h4 => first | rfl | k_is))
    (case y00 => refine' L2.exm_mk ?h1 ?h2 ?h3 ?h4; (case h1 => k_is); (case h2 => k_is); (case h3 => k_is); (case h4 => first | rfl | k_is))
    (case y01 => refine' L2.exm_mk ?h1 ?h2 ?h3 ?h4; (case h1 => k_is); (case h2 => k_is); (case h3 => k_is); (case h4 => first | rfl | k_is))
    (case y10 => refine' L2.exm_mk ?h1 ?h2 ?h3 ?h4; (case h1 => k_is); (case h2 => k_is); (case h3 => k_is); (case h4 => first | rfl | k_is))
    (case y11 => refine' L2.exm_mk ?h1 ?h2 ?h3 ?h4; (case h1 => k_is); (case h2 => k_is); (case h3 => k_is); (case h4 => first | rfl | k_is))
    (case neB => k_is)
    (case neK => k_is)
    (case sD => k_is)
    (case sL => k_is)
    (case UT => refine' N.usualT_mk KX G ?g ?l ?l0 ?l1 ?l2 ?l3 ?l4 ?l5 ?l6 ?l7 ?l8 ?l9; (case g => k_is); (case l => k_is); (case l0 => k_is); (case l1 => k_is); (case l2 => k_is); (case l3 => k_is); (case l4 => k_is); (case l5 => k_is); (case l6 => k_is); (case l7 => k_is); (case l8 => k_is); (case l9 => k_is))
    (case CR => refine' ⟨?r, ?g⟩; (case r => k_is); (case g => k_is))
    (case CU => refine' N.clsAt_mk ?a ?r ?f ?l ?c ?k; (case a => k_is); (case r => k_is); (case f => k_is); (case l => k_is); (case c => k_is); (case k => k_is))
    (case I =>
      refine' L2.initAt_mk KX G ?i1 ?i2 ?i3 ?i4 ?i5 (L2.funK_mk ?i6 ?i7 ?i8 ?i9)
      (case i1 => k_is); (case i2 => k_is); (case i3 => k_is); (case i4 => k_is); (case i5 => k_is); (case i6 => k_is); (case i7 => k_is); (case i8 => k_is)
      (case i9 =>
        intro q hq
        simp only [List.mem_cons, List.mem_nil_iff, or_false] at hq
        rcases hq with rfl | rfl | rfl
        · exact ⟨.none, by k_is, rfl⟩
        · exact ⟨.none, by k_is, rfl⟩
        · exact ⟨_, by k_is, ⟨_, rfl⟩⟩))
    (case FI => refine' N.initAtC_mk ?m ?i ?n ?k ?l ?c; (case m => k_is); (case i => k_is); (case n => k_is); (case k => k_is); (case l => k_is); (case c => k_is))
    (case FT => refine' L2.funAtC_mk KX G ?a ?l ?c ?k; (case a => k_is); (case l => k_is); (case c => k_is); (case k => k_is))
    (case F1 => refine' L2.funAt_mk KX G ?a ?l ?c ?k; (case a => k_is); (case l => k_is); (case c => k_is); (case k => k_is))
    (case F2 => refine' L2.funAt_mk KX G ?a ?l ?c ?k; (case a => k_is); (case l => k_is); (case c => k_is); (case k => k_is))
    (case F3 => refine' L2.funAt_mk KX G ?a ?l ?c ?k; (case a => k_is); (case l => k_is); (case c => k_is); (case k => k_is))
    (case F4 => refine' L2.funAt_mk KX G ?a ?l ?c ?k; (case a => k_is); (case l => k_is); (case c => k_is); (case k => k_is))
    (case F5 => refine' L2.funAt_mk KX G ?a ?l ?c ?k; (case a => k_is); (case l => k_is); (case c => k_is); (case k => k_is))
    (case F6 => refine' L2.funAt_mk KX G ?a ?l ?c ?k; (case a => k_is); (case l => k_is); (case c => k_is); (case k => k_is))
    (case F7 => refine' L2.funAt_mk KX G ?a ?l ?c ?k; (case a => k_is); (case l => k_is); (case c => k_is); (case k => k_is))
    (case F8 => refine' L2.funAt_mk KX G ?a ?l ?c ?k; (case a => k_is); (case l => k_is); (case c => k_is); (case k => k_is))
    (case F9 => refine' L2.funAt_mk KX G ?a ?l ?c ?k; (case a => k_is); (case l => k_is); (case c => k_is); (case k => k_is))
    (case F10 => refine' L2.funAt_mk KX G ?a ?l ?c ?k; (case a => k_is); (case l => k_is); (case c => k_is); (case k => k_is))
    (case F11 => refine' L2.funAt_mk KX G ?a ?l ?c ?k; (case a => k_is); (case l => k_is); (case c => k_is); (case k => k_is))
    (case F12 => refine' L2.funAt_mk KX G ?a ?l ?c ?k; (case a => k_is); (case l => k_is); (case c => k_is); (case k => k_is))
    (case F13 => refine' L2.funAt_mk KX G ?a ?l ?c ?k; (case a => k_is); (case l => k_is); (case c => k_is); (case k => k_is))
    (case F14 => refine' L2.funAt_mk KX G ?a ?l ?c ?k; (case a => k_is); (case l => k_is); (case c => k_is); (case k => k_is))
    (case F15 => refine' L2.funAt_mk KX G ?a ?l ?c ?k; (case a => k_is); (case l => k_is); (case c => k_is); (case k => k_is))
    (case F16 => refine' L2.funAt_mk KX G ?a ?l ?c ?k; (case a => k_is); (case l => k_is); (case c => k_is); (case k => k_is))
    (case F17 => refine' L2.funAt_mk KX G ?a ?l ?c ?k; (case a => k_is); (case l => k_is); (case c => k_is); (case k => k_is))
    (case F18 => refine' L2.funAt_mk KX G ?a ?l ?c ?k; (case a => k_is); (case l => k_is); (case c => k_is); (case k => k_is))
    (case F19 => refine' L2.funAt_mk KX G ?a ?l ?c ?k; (case a => k_is); (case l => k_is); (case c => k_is); (case k => k_is))
    (case F20 => refine' L2.funAt_mk KX G ?a ?l ?c ?k; (case a => k_is); (case l => k_is); (case c => k_is); (case k => k_is))
    (case F21 => refine' L2.funAt_mk KX G ?a ?l ?c ?k; (case a => k_is); (case l => k_is); (case c => k_is); (case k => k_is))
    (case F22 => refine' L2.funAt_mk KX G ?a ?l ?c ?k; (case a => k_is); (case l => k_is); (case c => k_is); (case k => k_is))
    (case F23 => refine' L2.funAt_mk KX G ?a ?l ?c ?k; (case a => k_is); (case l => k_is); (case c => k_is); (case k => k_is))
    (case F24 => refine' L2.funAt_mk KX G ?a ?l ?c ?k; (case a => k_is); (case l => k_is); (case c => k_is); (case k => k_is))
    (case F25 => refine' L2.funAt_mk KX G ?a ?l ?c ?k; (case a => k_is); (case l => k_is); (case c => k_is); (case k => k_is))
    (case F26 => refine' L2.funAt_mk KX G ?a ?l ?c ?k; (case a => k_is); (case l => k_is); (case c => k_is); (case k => k_is))
    (case F27 => refine' L2.funAt_mk KX G ?a ?l ?c ?k; (case a => k_is); (case l => k_is); (case c => k_is); (case k => k_is))
    (case F28 => refine' L2.funAt_mk KX G ?a ?l ?c ?k; (case a => k_is); (case l => k_is); (case c => k_is); (case k => k_is))
    (case F29 => refine' L2.funAt_mk KX G ?a ?l ?c ?k; (case a => k_is); (case l => k_is); (case c => k_is); (case k => k_is))
    (case F30 => refine' L2.funAt_mk KX G ?a ?l ?c ?k; (case a => k_is); (case l => k_is); (case c => k_is); (case k => k_is))
    (case P1 => refine' L2.propAt_mk ?a ?b ?t ?r ?l ?c ?k; (case a => k_is); (case b => k_is); (case t => k_is); (case r => k_is); (case l => k_is); (case c => k_is); (case k => k_is))
    (case P2 => refine' L2.propAt_mk ?a ?b ?t ?r ?l ?c ?k; (case a => k_is); (case b => k_is); (case t => k_is); (case r => k_is); (case l => k_is); (case c => k_is); (case k => k_is))
    (case P3 => refine' L2.propAt_mk ?a ?b ?t ?r ?l ?c ?k; (case a => k_is); (case b => k_is); (case t => k_is); (case r => k_is); (case l => k_is); (case c => k_is); (case k => k_is))
    (case P4 => refine' L2.propAt_mk ?a ?b ?t ?r ?l ?c ?k; (case a => k_is); (case b => k_is); (case t => k_is); (case r => k_is); (case l => k_is); (case c => k_is); (case k => k_is))
    (case P5 => refine' L2.propAt_mk ?a ?b ?t ?r ?l ?c ?k; (case a => k_is); (case b => k_is); (case t => k_is); (case r => k_is); (case l => k_is); (case c => k_is); (case k => k_is))
    (case P6 => refine' L2.propAt_mk ?a ?b ?t ?r ?l ?c ?k; (case a => k_is); (case b => k_is); (case t => k_is); (case r => k_is); (case l => k_is); (case c => k_is); (case k => k_is))
    (case M0 => refine' L2.methAt_mk ?a ?i ?l ?c ?k; (case a => k_is); (case i => k_is); (case l => k_is); (case c => k_is); (case k => k_is))
    (case M1 => refine' L2.methAt_mk ?a ?i ?l ?c ?k; (case a => k_is); (case i => k_is); (case l => k_is); (case c => k_is); (case k => k_is))
    (case M2 => refine' L2.methAt_mk ?a ?i ?l ?c ?k; (case a => k_is); (case i => k_is); (case l => k_is); (case c => k_is); (case k => k_is))
    (case M3 => refine' L2.methAt_mk ?a ?i ?l ?c ?k; (case a => k_is); (case i => k_is); (case l => k_is); (case c => k_is); (case k => k_is))
    (case M4 => refine' L2.methAt_mk ?a ?i ?l ?c ?k; (case a => k_is); (case i => k_is); (case l => k_is); (case c => k_is); (case k => k_is))
    (case M5 => refine' L2.methAt_mk ?a ?i ?l ?c ?k; (case a => k_is); (case i => k_is); (case l => k_is); (case c => k_is); (case k => k_is))
    (case M6 => refine' L2.methAt_mk ?a ?i ?l ?c ?k; (case a => k_is); (case i => k_is); (case l => k_is); (case c => k_is); (case k => k_is))
    (case M7 => refine' L2.methAt_mk ?a ?i ?l ?c ?k; (case a => k_is); (case i => k_is); (case l => k_is); (case c => k_is); (case k => k_is))
    (case M8 => refine' L2.methAt_mk ?a ?i ?l ?c ?k; (case a => k_is); (case i => k_is); (case l => k_is); (case c => k_is); (case k => k_is))
    (case M9 => refine' L2.methAt_mk ?a ?i ?l ?c ?k; (case a => k_is); (case i => k_is); (case l => k_is); (case c => k_is); (case k => k_is))
    (case M10 => refine' L2.methAt_mk ?a ?i ?l ?c ?k; (case a => k_is); (case i => k_is); (case l => k_is); (case c => k_is); (case k => k_is))
    (case M11 => refine' L2.methAt_mk ?a ?i ?l ?c ?k; (case a => k_is); (case i => k_is); (case l => k_is); (case c => k_is); (case k => k_is))
    (case M12 => refine' L2.methAt_mk ?a ?i ?l ?c ?k; (case a => k_is); (case i => k_is); (case l => k_is); (case c => k_is); (case k => k_is))
    (case M13 => refine' L2.methAt_mk ?a ?i ?l ?c ?k; (case a => k_is); (case i => k_is); (case l => k_is); (case c => k_is); (case k => k_is))
    (case code1 => refine' L2.codeHd_mk ?l ?a ?b ?c ?d ?e ?f; (case l => k_is); (case a => rfl); (case b => exact ⟨_, _, rfl⟩); (case c => exact ⟨_, _, rfl⟩); (case d => exact ⟨_, rfl⟩); (case e => exact ⟨_, _, rfl⟩); (case f => decide))
    (case code2 => refine' L2.codeHd_mk ?l ?a ?b ?c ?d ?e ?f; (case l => k_is); (case a => rfl); (case b => exact ⟨_, _, rfl⟩); (case c => exact ⟨_, _, rfl⟩); (case d => exact ⟨_, rfl⟩); (case e => exact ⟨_, _, rfl⟩); (case f => decide))
    (case loose1 => exact L2.km_none Y (by decide +kernel))
    (case loose2 => exact L2.km_none Y (by decide +kernel))

