import PyProof.Rows.All
import Wide.All
import OpenK.AllK
import Wide.FinOn
import HandS.ForMost
import HandS.Exc
import HandS.OwnEq
import HandS.Gcd
import HandS.RaiseMore
import HandS.IsInst
import HandS.NoneIn
import HandS.FStr
import HandS.Wide
import HandS.Defaults
import HandS.DictComp
import HandS.ListItems
import OpenK.KOps
import PyProof.Rows.RegStrFacts
import PyProof.Rows.ReprOcc
import HandS.Walk
import HandS.Steps
import HandS.Dict
import HandS.WordsDict
import PyProof.Rows.StrMeet
import HandS.MakeKwOnly
import HandS.TupAny
import HandS.Style
import HandS.DictEq
import HandS.Iter
import KE.KFmtOwn
import PyProof.NeKinds
import HandS.Zip
import HandS.Words
import KE.GoesMore
import KE.IntTextLaws
import PyProof.Rows.StrMul
import PyProof.StrBlock2
import HandS.HotCalls
import HandS.ExcIs
import HandS.ExcInitHot
import HandS.CallSlots
import PyProof.ExcBaseAll.ZeroDivisionError
import PyProof.ExcBaseAll.ValueError
import PyProof.ExcBaseAll.LookupError
import HandS.ExcInit
import KE.KExcSuper
import KE.KExcIs
import HandS.ExcField
import KE.KTryMore
import KE.KExcLine
import PyProof.Rows.StrCase
import PySem.Challenge.RW_oneroof_k06_worlds_refused
set_option Elab.async false
set_option maxRecDepth 100000
set_option maxHeartbeats 4000000
set_option linter.all false
namespace Own
open PySem PySem.Spec PyProof.Rows L2
section
variable {X : Cx}

/-- what a callee's run gives, told at any room below X -/
theorem run_sub {CX : CXT} {k : Nat} {f : Addr} {fd : FuncData} {ps : List Str} {sp : Sp} {E : XK} {A : Around} {pins : List (Addr × Obj)} {σ : L2.St} {H : Hp} {s : Shared} {R : Value → Shared → Prop} {us : List Value} {vs : List V} {Q : VK}
    (F : FnOk X.prog X.w X.K X.mg X.base CX k f fd ps sp) (sb : Sub X k A) (hb : Binds X.K fd ps []) (hx : Passes CX X E) (I : Inv X pins σ H s) (r : Vals vs us) (h : sp vs H Q E)
    (hR : ∀ v u H' s', Inv X pins σ H' s' → RelV v u → Q v H' → R u s') : wpAny (model X.prog X.w) A (call (.ref f) us) R X.xe s := by
  have e := I.env0
  have e0 : Env0 X.prog X.w X.K X.mg X.base A X.stack s H := ⟨sb.fr.trans e.frames, e.mod, e.bs, e.bsz, e.funs, e.frf, e.hok, e.bare⟩
  have hl : (us ++ []).length = ps.length := by rw [List.append_nil, ← r.length]; exact F.len _ _ _ _ h
  have hb2 := hb s us I.kIn hl
  rw [List.append_nil] at hb2
  refine wpAny_call (codeAny_mono (F.run A X.stack s H ⟨us, []⟩ us vs Q E sb.room e0 hb2 r h) fun z s' hq => ?_)
  cases z with
  | error e => exact hx pins σ H s e s' I hq
  | ok fl =>
    cases fl with
    | ret u =>
      obtain ⟨v, H', I', rv, q⟩ := I.after hq
      exact hR v u H' s' I' rv q
    | next => exact hq.elim
    | brk => exact hq.elim
    | cont => exact hq.elim

/-- repr(o): the class's own __repr__ -/
def rReprI (C : Addr) (sp : Sp) (E : XK) : List V → Hp → VK → Prop := fun vs H Q =>
  ∃ a dx fs, vs = [V.ref a] ∧ H a = some (.ins C dx fs) ∧ sp [.ref a] H (fun v H' => (∃ y, v = .str y) ∧ Q v H') E
theorem call_repr_own {CX : CXT} {k : Nat} {C f : Addr} {fd : FuncData} {ps : List Str} {sp : Sp} {E : XK} (F : FnOk X.prog X.w X.K X.mg X.base CX k f fd ps sp) (hr : Room (k + 1) X.A) (hb : Binds X.K fd ps []) (hx : Passes CX X E)
    (hs : PySem.W.findIn X.K (.ref C) "__repr__" = some (some (.ref f))) (hf : PySem.W.isFn X.K (.ref f) = true) : CallR X (.builtin "repr") (rReprI C sp E) := by
  intro pins s σ H xs us Q I r h
  obtain ⟨a, dx, fs, rfl, ha, h⟩ := h
  obtain ⟨u, rfl, ru⟩ := vals1 r
  obtain rfl : u = Value.ref a := ru
  obtain ⟨mA, J, _⟩ := ins_get I.hok ha
  obtain ⟨od, J, _⟩ := J.look
  obtain ⟨m, hF⟩ := I.fr
  refine PySem.W.repr_K hr.in1.units0 hF I.ok.mod.kin J hs hf ?_
  refine run_sub (A := X.A.in1) (vs := [V.ref a]) F ⟨hr.in1, rfl⟩ hb hx I (.cons (show RelV (V.ref a) (Value.ref a) from rfl) .nil) h fun v u H' s' I' rv q => ?_
  obtain ⟨⟨y, rfl⟩, q⟩ := q
  obtain ⟨t, rfl⟩ := rv
  exact ⟨.str y, H', I', ⟨t, rfl⟩, q⟩

/-- repr of an int, of a text -/
def rReprF : List V → Hp → VK → Prop := fun vs H Q =>
  (∃ i, vs = [V.int i] ∧ i.natAbs.log2 < 1920 ∧ Q (.str (toString i)) H) ∨ ∃ y, vs = [V.str y] ∧ (reprText y).length ≤ sizeLine ∧ Q (.str (reprText y)) H
theorem call_repr_flat : CallR X (.builtin "repr") rReprF := by
  intro pins s σ H xs us Q I r h
  rcases h with ⟨i, rfl, hz, q⟩ | ⟨y, rfl, hz, q⟩
  · exact SkE.call_repr_int pins s σ H _ us Q I r ⟨i, rfl, hz, q⟩
  · obtain ⟨u, rfl, t, rfl⟩ := vals1 r
    exact PySem.P.repr_of_str ⟨.str _, H, I.tok _, ⟨_, rfl⟩, q⟩ hz


theorem typeOf_at {M : Model} {h : Heap} {a : Addr} {o : Obj} (e : h.get? a = some o) : PySem.W.Looks M h (typeOf (.ref a)) o.cls := (PySem.W.Looks.ld e).andThen .now
/-- what the type of such a value is -/
theorem typeOf_ty {pins : List (Addr × Obj)} {σ : L2.St} {H : Hp} {s : Shared} {M : Model} {x : V} {u t : Value} (I : Inv X pins σ H s) (rx : RelV x u) (ty : TyX X.K H x t) : PySem.W.Looks M s.heap (typeOf u) t := by
  cases ty with
  | base b =>
    cases b with
    | non => cases (show u = Value.none from rx); exact .of_pure rfl
    | bl y => cases (show u = Value.bool y from rx); exact .of_pure rfl
    | int i => obtain ⟨t, q⟩ := (show ∃ t, u = Value.int i t from rx); cases q; exact .of_pure rfl
    | str y => obtain ⟨t, q⟩ := (show ∃ t, u = Value.str y t from rx); cases q; exact .of_pure rfl
    | flt y => obtain ⟨t, q⟩ := (show ∃ t, u = Value.float y t from rx); cases q; exact .of_pure rfl
    | @lst a xs ea =>
      cases (show u = Value.ref a from rx)
      obtain ⟨_, _, n, _, h1⟩ := (show ObjOk X.prog X.w H s.heap a (.lst xs) from I.hok a _ ea)
      exact typeOf_at h1
    | @frz a ob xs ea =>
      cases (show u = Value.ref a from rx)
      obtain ⟨_, _, _, n, _, h1⟩ := (show ObjOk X.prog X.w H s.heap a (.frz ob (.lst xs)) from I.hok a _ ea)
      exact typeOf_at h1
    | @tup a xs ea =>
      cases (show u = Value.ref a from rx)
      obtain ⟨_, _, _, o, h1, h2, _⟩ := (show ObjOk X.prog X.w H s.heap a (.tup xs) from I.hok a _ ea)
      exact h2 ▸ typeOf_at h1
    | @dK a kvs ea =>
      cases (show u = Value.ref a from rx)
      obtain ⟨_, _, vs, _, o, es, ep, h1, h2, _⟩ := (show ObjOk X.prog X.w H s.heap a (.dK kvs) from I.hok a _ ea)
      exact h2.1 ▸ typeOf_at h1
    | @dT a kvs ea =>
      cases (show u = Value.ref a from rx)
      obtain ⟨_, _, xs, _, o, es, ep, h1, h2, _⟩ := (show ObjOk X.prog X.w H s.heap a (.dT kvs) from I.hok a _ ea)
      exact h2.1 ▸ typeOf_at h1
    | @ins a C dx fs ea cl ha hn htk hm =>
      cases (show u = Value.ref a from rx)
      obtain ⟨mA, O, _⟩ := ins_get I.hok ea
      obtain ⟨od, J, _⟩ := O.look
      exact J.type
  | byt y => obtain ⟨t, q⟩ := (show ∃ t, u = Value.bytes y t from rx); cases q; exact .of_pure rfl
  | @set a S n ea =>
    cases (show u = Value.ref a from rx)
    obtain ⟨o, _, _, _, e, ex, _⟩ := I.hok a _ ea
    exact ex.1 ▸ typeOf_at e
  | @kList a o e c =>
    cases (show u = Value.ref a from rx)
    exact c ▸ typeOf_at (I.kIn a o e)
  | @kTuple a o e c =>
    cases (show u = Value.ref a from rx)
    exact c ▸ typeOf_at (I.kIn a o e)
  | @kDict a o e c =>
    cases (show u = Value.ref a from rx)
    exact c ▸ typeOf_at (I.kIn a o e)
  | @fTuple a ob xs ea =>
    cases (show u = Value.ref a from rx)
    obtain ⟨_, _, _, _, o, h1, h2, _⟩ := (show ObjOk X.prog X.w H s.heap a (.frz ob (.tup xs)) from I.hok a _ ea)
    exact h2 ▸ typeOf_at h1
  | @fDict a ob kvs ea =>
    cases (show u = Value.ref a from rx)
    obtain ⟨_, _, _, vs, _, o, es, ep, h1, h2, _⟩ := (show ObjOk X.prog X.w H s.heap a (.frz ob (.dK kvs)) from I.hok a _ ea)
    exact h2.1 ▸ typeOf_at h1

/-- a == b by the left one's own __eq__: b of a type that is no subclass of a's class -/
def rEqI (K : PySem.W.Frag) (C : Addr) (sp : Sp) (E : XK) (g : Bool → V) : R2 := fun x y H Q =>
  ∃ a dx fs t, x = V.ref a ∧ H a = some (.ins C dx fs) ∧ TyX K H y t ∧ PySem.W.notFirst K C t = true ∧ sp [.ref a, y] H (fun v H' => ∃ b, v = .bl b ∧ Q (g b) H') E
theorem op_eq_own {CX : CXT} {k : Nat} {C f : Addr} {fd : FuncData} {ps : List Str} {sp : Sp} {E : XK} (F : FnOk X.prog X.w X.K X.mg X.base CX k f fd ps sp) (hr : Room k X.A) (hb : Binds X.K fd ps []) (hx : Passes CX X E)
    (hs : PySem.W.findIn X.K (.ref C) "__eq__" = some (some (.ref f))) (hf : PySem.W.isFn X.K (.ref f) = true) : OpR X (compareOp .Eq) (rEqI X.K C sp E V.bl) := by
  intro pins s σ H x y v u Q I rx ry h
  obtain ⟨a, dx, fs, t, rfl, ha, ty, nf, h⟩ := h
  obtain rfl : v = Value.ref a := rx
  obtain ⟨mA, J, _⟩ := ins_get I.hok ha
  obtain ⟨od, J, _⟩ := J.look
  obtain ⟨m, hF⟩ := I.fr
  show wpAny _ _ (richCompare .Eq (.ref a) u) _ _ _
  refine PySem.W.cmp_K (op := .Eq) hr.units0 hF I.ok.mod.kin J (typeOf_ty I ry ty) nf hs hf ?_
  refine run_sub (vs := [V.ref a, y]) F ⟨hr, rfl⟩ hb hx I (.cons (show RelV (V.ref a) (Value.ref a) from rfl) (.cons ry .nil)) h fun v u H' s' I' rv q => ?_
  obtain ⟨b, rfl, q⟩ := q
  obtain rfl : u = Value.bool b := rv
  exact ⟨.bl b, H', I', rfl, q⟩

/-- a slot that the class has from object: found, bound, called -/
theorem ifBound_B {M : Model} {A : Around} {E : Value → Shared → Prop} {s : Shared} {K : PySem.W.Frag} {x C : Addr} {ox : Obj} {od : Option Obj} {name : Str} {id : String} {args : List Value} {Q : Option Value → Shared → Prop} (X : K.In s.heap) (I : PySem.W.InstAt s.heap x ox C od)
    (hs : PySem.W.findIn K (.ref C) name = some (some (.builtin id))) (hb : ∀ self, bindSpecial (.builtin id) self = pure (.builtin id, [self]))
    (h : wpAny M A (call (.builtin id) (.ref x :: args)) (fun v => Q (some v)) E s) : wpAny M A (callSpecialIfBound? (.ref x) name args) Q E s := by
  have fin : wpAny M A (call (.builtin id) ([.ref x] ++ args) >>= fun v => pure (some v)) Q E s := wpAny_bind (wpAny_mono h (fun v s' h' => wpAny_pure h') fun _ _ h' => h')
  simp only [callSpecialIfBound?, bindSpecialIfBound?]
  refine wpAny_holding (wpAny_bind (wpAny_bind (wpAny_bind (I.type.here ((PySem.W.looks_findIn X hs).here ?_)))))
  refine wpAny_bind (wpAny_askSetting (wpAny_ite ?_))
  split
  · exact wpAny_bind ((PySem.W.Looks.of_pure (hb _)).here (wpAny_pure (by exact fin)))
  · exact wpAny_tryCatch (wpAny_bind ((PySem.W.Looks.of_pure (hb _)).here (wpAny_pure (by exact fin))))
/-- a != b where the class has __eq__ alone: object's __ne__ asks it -/
theorem ne_own {prog : Program} {w : World} {A : Around} {E : Value → Shared → Prop} {s : Shared} {K : PySem.W.Frag} {x C f : Addr} {ox : Obj} {od : Option Obj} {b tb : Value} {Q : Value → Shared → Prop} (hu : A.in1.units < cLine) (X : K.In s.heap) (I : PySem.W.InstAt s.heap x ox C od)
    (hb : PySem.W.Looks (model prog w) s.heap (typeOf b) tb) (hn : PySem.W.notFirst K C tb = true) (hne : PySem.W.findIn K (.ref C) "__ne__" = some (some (.builtin "object.__ne__"))) (hm : PySem.W.mroIn K C (.type "object") = some true)
    (hs : PySem.W.findIn K (.ref C) "__eq__" = some (some (.ref f))) (hf : PySem.W.isFn K (.ref f) = true)
    (h : wpAny (model prog w) A.in1 (call (.ref f) [.ref x, b]) (fun v s' => ∃ k, v = .bool k ∧ Q (.bool (!k)) s') E s) : wpAny (model prog w) A (richCompare .NotEq (.ref x) b) Q E s := by
  have hu0 : A.units < cLine := Nat.lt_of_succ_lt hu
  have body : wpAny (model prog w) A (call (.builtin "object.__ne__") [.ref x, b]) (fun v s' => ∃ k, v = .bool k ∧ Q v s') E s := by
    refine wpAny_call (codeAny_call_builtin PySem.F.slot_object_ne.plain PySem.F.entry_object_ne (PySem.W.check_slot (i := "object.__ne__") (owner := "object") (n := "__ne__") (by decide +kernel) (by decide +kernel) (I.type.andThen (PySem.W.looks_mroIn X hm)) (PySem.F.args_object_ne_2 _ _) ?_))
    unfold Builtin.«object.__ne__»
    refine wpAny_bind (m := PySem.slotArgs "__ne__" 1 _) (wpAny_pure ?_)
    refine wpAny_bind (m := cRoomFor _ _) (wpAny_cRoomFor hu ?_)
    refine wpAny_bind (m := callSpecialIfBound? (.ref x) (Str.ofString "__eq__") _) (PySem.W.ifBound_K X I hs hf (wpAny_mono h (fun v s' hv => ?_) fun _ _ e => e))
    obtain ⟨k, rfl, q⟩ := hv
    exact wpAny_bind (wpAny_truthy_bool (wpAny_pure ⟨_, rfl, q⟩))
  have one : wpAny (model prog w) A (tryCompare (.ref x) (cmpInfo .NotEq).2.1 b) (fun r s' => ∃ v, r = some v ∧ Q v s') E s := by
    unfold tryCompare
    refine wpAny_bind (ifBound_B X I hne PySem.F.slot_object_ne.bind (wpAny_mono body (fun v s' hv => ?_) fun _ _ e => e))
    obtain ⟨k, rfl, q⟩ := hv
    exact wpAny_pure ⟨_, rfl, q⟩
  have fin : ∀ {r : Option Value} {s' : Shared}, (∃ v, r = some v ∧ Q v s') → ∃ v, r = some v ∧ Q v s' := fun z => z
  unfold richCompare
  simp only [PySem.oneThing_ref]
  refine wpAny_holding (wpAny_bind (wpAny_cRoomFor hu0 ?_))
  refine wpAny_bind (I.type.here (wpAny_bind (hb.here ?_)))
  split
  · rename_i q
    have e : PySem.W.subIn K tb (.ref C) = some false := by
      rcases Bool.or_eq_true_iff.mp hn with e | e
      · rw [beq_iff_eq.mp e] at q; simp at q
      · exact beq_iff_eq.mp e
    refine wpAny_bind ((PySem.W.looks_subIn X e).here ?_)
    simp only [Bool.false_eq_true, if_false]
    refine wpAny_bind (wpAny_mono one (fun r s' z => ?_) fun _ _ e => e)
    obtain ⟨v, rfl, hq⟩ := z
    exact wpAny_pure hq
  · refine wpAny_bind (wpAny_pure ?_)
    simp only [Bool.false_eq_true, if_false]
    refine wpAny_bind (wpAny_mono one (fun r s' z => ?_) fun _ _ e => e)
    obtain ⟨v, rfl, hq⟩ := z
    exact wpAny_pure hq
theorem op_ne_own {CX : CXT} {k : Nat} {C f : Addr} {fd : FuncData} {ps : List Str} {sp : Sp} {E : XK} (F : FnOk X.prog X.w X.K X.mg X.base CX k f fd ps sp) (hr : Room (k + 1) X.A) (hb : Binds X.K fd ps []) (hx : Passes CX X E)
    (hs : PySem.W.findIn X.K (.ref C) "__eq__" = some (some (.ref f))) (hf : PySem.W.isFn X.K (.ref f) = true)
    (hne : PySem.W.findIn X.K (.ref C) "__ne__" = some (some (.builtin "object.__ne__"))) (hm : PySem.W.mroIn X.K C (.type "object") = some true) : OpR X (compareOp .NotEq) (rEqI X.K C sp E fun b => V.bl (!b)) := by
  intro pins s σ H x y v u Q I rx ry h
  obtain ⟨a, dx, fs, t, rfl, ha, ty, nf, h⟩ := h
  obtain rfl : v = Value.ref a := rx
  obtain ⟨mA, J, _⟩ := ins_get I.hok ha
  obtain ⟨od, J, _⟩ := J.look
  show wpAny _ _ (richCompare .NotEq (.ref a) u) _ _ _
  refine ne_own hr.in1.units0 I.kIn J (typeOf_ty I ry ty) nf hne hm hs hf ?_
  refine run_sub (A := X.A.in1) (vs := [V.ref a, y]) F ⟨hr.in1, rfl⟩ hb hx I (.cons (show RelV (V.ref a) (Value.ref a) from rfl) (.cons ry .nil)) h fun v u H' s' I' rv q => ?_
  obtain ⟨b, rfl, q⟩ := q
  obtain rfl : u = Value.bool b := rv
  exact ⟨b, rfl, .bl (!b), H', I', rfl, q⟩

/-- // by any number that is not nought, both below 2 ^ 9000 -/
def CDivA (_ j : Int) : Prop := j ≠ 0 ∧ j.natAbs.log2 < 9000
theorem op_fdivA : OpR X (binaryOp .FloorDiv) (rI CDivA fun i j => .int (i.fdiv j)) := opI fun i j _ _ _ _ _ hc q =>
  floordiv_int hc.1 q (.inl (PyProof.noPylong_of_log2 hc.2))
end
end Own

set_option Elab.async false
set_option maxRecDepth 100000
set_option maxHeartbeats 4000000
set_option linter.all false
namespace Own
open PySem PySem.Spec PyProof.Rows L2
/-! places of lists -/
theorem atI_lt {α : Type} {xs : List α} {k : Int} (h0 : 0 ≤ k) (h1 : k < xs.length) : ∃ v, xs[k.toNat]? = some v ∧ atI xs k = some v := by
  have hk : k.toNat < xs.length := by omega
  refine ⟨xs[k.toNat], List.getElem?_eq_getElem hk, ?_⟩
  unfold atI ixN
  rw [if_pos h0, if_pos h1]
  exact List.getElem?_eq_getElem hk
theorem atI_map {α β : Type} {f : α → β} {xs : List α} {k : Int} {v : α} (h : atI xs k = some v) : atI (xs.map f) k = some (f v) := by
  unfold atI at h ⊢
  rw [List.length_map]
  cases e : ixN xs.length k with
  | none => rw [e] at h; cases h
  | some j =>
    rw [e] at h
    have h : xs[j]? = some v := h
    show (xs.map f)[j]? = some (f v)
    rw [List.getElem?_map, h]
    rfl
theorem atI_nat {α : Type} {xs : List α} {j : Nat} {v : α} (h : xs[j]? = some v) : atI xs (j : Int) = some v := by
  have hj := (List.getElem?_eq_some_iff.mp h).1
  obtain ⟨w, h1, h2⟩ := atI_lt (xs := xs) (k := (j : Int)) (by omega) (by omega)
  rw [Int.toNat_natCast, h] at h1
  rw [h2, ← h1]
theorem pick4 {P : Int → Prop} {a b c d k : Int} (h0 : 0 ≤ k) (h1 : k < 4) (ha : P a) (hb : P b) (hc : P c) (hd : P d) : ∃ v, atI [V.int a, .int b, .int c, .int d] k = some (.int v) ∧ P v := by
  rcases (by omega : k = 0 ∨ k = 1 ∨ k = 2 ∨ k = 3) with rfl | rfl | rfl | rfl
  · exact ⟨a, rfl, ha⟩
  · exact ⟨b, rfl, hb⟩
  · exact ⟨c, rfl, hc⟩
  · exact ⟨d, rfl, hd⟩
/-- the two places of a pair -/
theorem atI_0 {α : Type} {x : α} {xs : List α} : atI (x :: xs) 0 = some x := Own.atI_nat (j := 0) rfl
theorem atI_1 {α : Type} {x y : α} {xs : List α} : atI (x :: y :: xs) 1 = some y := Own.atI_nat (j := 1) rfl
theorem drawn5 {ds : List Int} {a b c d e : Int} (h : Paired (fun d z => 0 ≤ d ∧ d < z) ds [a, b, c, d, e]) : ∃ v w x y z : Int, ds = [v, w, x, y, z] ∧ (0 ≤ v ∧ v < a) ∧ (0 ≤ w ∧ w < b) ∧ (0 ≤ x ∧ x < c) ∧ (0 ≤ y ∧ y < d) ∧ (0 ≤ z ∧ z < e) := by
  cases h with
  | cons h1 h => cases h with
    | cons h2 h => cases h with
      | cons h3 h => cases h with
        | cons h4 h => cases h with
          | cons h5 h => cases h with
            | nil => exact ⟨_, _, _, _, _, rfl, h1, h2, h3, h4, h5⟩
theorem drawn4 {ds : List Int} {a b c d : Int} (h : Paired (fun d z => 0 ≤ d ∧ d < z) ds [a, b, c, d]) : ∃ v w x y : Int, ds = [v, w, x, y] ∧ (0 ≤ v ∧ v < a) ∧ (0 ≤ w ∧ w < b) ∧ (0 ≤ x ∧ x < c) ∧ (0 ≤ y ∧ y < d) := by
  cases h with
  | cons h1 h => cases h with
    | cons h2 h => cases h with
      | cons h3 h => cases h with
        | cons h4 h => cases h with
          | nil => exact ⟨_, _, _, _, rfl, h1, h2, h3, h4⟩
theorem drawn3 {ds : List Int} {a b c : Int} (h : Paired (fun d z => 0 ≤ d ∧ d < z) ds [a, b, c]) : ∃ v w x : Int, ds = [v, w, x] ∧ (0 ≤ v ∧ v < a) ∧ (0 ≤ w ∧ w < b) ∧ (0 ≤ x ∧ x < c) := by
  cases h with
  | cons h1 h => cases h with
    | cons h2 h => cases h with
      | cons h3 h => cases h with
        | nil => exact ⟨_, _, _, rfl, h1, h2, h3⟩
/-! products -/
theorem mulWn {i j : Int} (n m : Nat) (hi : i.natAbs < 2 ^ n) (hj : j.natAbs < 2 ^ m) (h0 : 0 < n) (h1 : 0 < m) (h : n + m ≤ 1000000) : CMulW i j := wide_mul hi hj h0 h1 h
theorem mulW64 {i j : Int} (hi : i.natAbs < 2 ^ 64) (hj : j.natAbs < 2 ^ 64) : CMulW i j := wide_mul hi hj (by decide) (by decide) (by decide)
theorem mul_lt {i j : Int} (n m : Nat) (hi : i.natAbs < 2 ^ n) (hj : j.natAbs < 2 ^ m) : (i * j).natAbs < 2 ^ (n + m) := wide_lt hi hj
theorem divA_of {i j : Int} (n : Nat) (h : j ≠ 0) (hj : j.natAbs < 2 ^ n) (h0 : 0 < n) (h9 : n ≤ 9000) : CDivA i j := ⟨h, Nat.lt_of_lt_of_le (PySem.Flt.log2_lt_of h0 hj) h9⟩
theorem log2_of {i : Int} (h : i.natAbs < 2 ^ 1920) : i.natAbs.log2 < 1920 := PySem.Flt.log2_lt_of (by decide) h
/-! loops -/
section
variable {K : PySem.W.Frag} {a : Addr} {xs : List V} {g : TG} {tb : TS} {D : Ends} {σ : L2.St} {H : Hp}
theorem for_listI {j : Nat} (hv : σ[j]? = some (some (.ref a))) (hq : SqL K H a xs) (Pv : Nat → L2.St → Hp → Prop) (h0 : Pv 0 σ H) (hl : ∀ i σ H, i ≤ xs.length → Pv i σ H → SqL K H a xs)
    (hs : ∀ i x σ H, xs[i]? = some x → Pv i σ H → g x σ H fun σ2 H2 => tb { D with nx := Pv (i + 1), ct := Pv (i + 1), bk := D.nx } σ2 H2) (hd : ∀ σ H, Pv xs.length σ H → D.nx σ H) : tFor (iList K (tVar j)) g tb D σ H :=
  ⟨_, hv, a, rfl, ⟨_, hq⟩, for_list Pv h0 hl hs hd⟩
theorem for_rangeI {ta : TA} {n : Int} (hta : ∀ R : List V → Hp → Prop, R [.int n] H → ta σ H R) (h1 : 0 ≤ n) (h2 : n < 2 ^ 62) (Pv : Nat → L2.St → Hp → Prop) (h0 : Pv 0 σ H)
    (hs : ∀ (i : Nat) σ H, i < n.toNat → Pv i σ H → g (.int (0 + (i : Int))) σ H fun σ2 H2 => tb { D with nx := Pv (i + 1), ct := Pv (i + 1), bk := D.nx } σ2 H2) (hd : ∀ σ H, Pv n.toNat σ H → D.nx σ H) : tFor (iRng1 ta) g tb D σ H :=
  hta _ ⟨n, rfl, by omega, h2, for_range Pv h0 hs hd⟩
end
theorem seq_i {t u : TS} {D : Ends} {σ : L2.St} {H : Hp} (h : ∀ N : L2.St → Hp → Prop, (∀ σ H, u D σ H → N σ H) → t { D with nx := N } σ H) : tSeq t u D σ H := h _ fun _ _ x => x
/-! the heap grows -/
theorem alloc {H H1 : Hp} {p : Addr} {o : HO} (hp : H p = none) (h : L2.upd H p o = H1) : Ext H H1 ∧ H1 p = some o := by
  subst h
  exact ⟨Ext.upd hp, upd_same⟩
theorem upd_ext {H H1 : Hp} {p : Addr} {o : HO} (e : Ext H H1) (hp : H p = none) : Ext H (L2.upd H1 p o) := fun b u h => by
  rw [upd_ne (ne_of_none h hp)]
  exact e b u h
theorem Ext.refl' (H : Hp) : Ext H H := fun _ _ h => h
theorem seqL {K : PySem.W.Frag} {H H1 : Hp} {a : Addr} {xs : List V} (h : SqL K H a xs) (e : Ext H H1) : SqL K H1 a xs := SqL.ext h e
theorem ofL {K : PySem.W.Frag} {H : Hp} {a : Addr} {xs : List V} (h : H a = some (.lst xs)) : SqL K H a xs := .inl (.inl h)
theorem ofT {K : PySem.W.Frag} {H : Hp} {a : Addr} {xs : List V} (h : H a = some (.tup xs)) : SqT K H a xs := .inl (.inl h)
/-! a slice of ints is ints -/
theorem cut_ints (ns : List Int) (lo hi : Option Int) : ∃ ms : List Int, cutV (ns.map V.int) lo hi = ms.map V.int ∧ ms.length ≤ ns.length := by
  refine ⟨(ns.drop (HT.sIx (ns.map V.int).length 0 lo)).take (HT.sIx (ns.map V.int).length (ns.map V.int).length hi - HT.sIx (ns.map V.int).length 0 lo), ?_, ?_⟩
  · unfold cutV
    rw [List.map_take, List.map_drop]
  · rw [List.length_take, List.length_drop]
    omega
/-! drawn numbers -/
abbrev Drawn (ds szs : List Int) : Prop := Paired (fun d z => 0 ≤ d ∧ d < z) ds szs
theorem take_snoc {α : Type} {xs : List α} {i : Nat} {x : α} (h : xs[i]? = some x) : xs.take (i + 1) = xs.take i ++ [x] := by
  rw [List.take_add_one, h]
  rfl
theorem tyLst {K : PySem.W.Frag} {H : Hp} {p : Addr} {xs : List V} (h : H p = some (.lst xs)) : tyV K "list" (.ref p) H := .inl ⟨rfl, _, .inl (.inl h)⟩
/-- a def with defaults that lets nothing out -/
theorem okD {P : Program} {w : World} {K : PySem.W.Frag} {mg : Str → Option Value} {base : Heap} {x qual : Str} {params : Arguments} {body : List Stmt} {scope : Scope} {dvs : List V} {kws : List (Str × V)} {f : Addr} {fd : FuncData} {N ps : List Str} {k : Nat} {sp : Sp}
    (F : FunD K x qual params body scope dvs kws f fd) (S : FnScope N ps scope) (len : ∀ vs H Q E, sp vs H Q E → vs.length = ps.length)
    (hbody : ∀ (cdv : Value) (A : Around) (outer : List Env) (s : Shared) (H : Hp) (vs : List V) (Q : VK) (E : XK), Room k (A.deeper (envOfC qual scope s.heap.objs.size f cdv)) → sp vs H Q E →
      ∃ t, PSs (cxOf CX0 P w K mg base N qual scope f cdv A outer s H E).nox body t ∧ t { nx := fun _ H' => Q .non H', rt := Q } (L2.start N vs) H) : FnOk P w K mg base CX0 (k + 1) f fd ps sp :=
  F.ok S len fun cdv A outer s H vs Q E hr h => by
    obtain ⟨t, h1, h2⟩ := hbody cdv A outer s H vs Q E hr h
    exact ⟨t, h1.nox, h2⟩
/-- what is never reached -/
theorem pe_never {X : Cx} {e : Expr} : PE X e (fun _ _ _ => False) := ⟨fun _ _ _ _ _ _ h => h.elim⟩
/-- an instance made: its dict, itself, its fields -/
theorem makeP {H H1 : Hp} {x dx C : Addr} {fs0 fs : List (Str × V)} (hx : H x = none) (hd : H dx = none) (h : L2.upd (L2.upd (L2.upd H dx (.own x)) x (.ins C dx fs0)) x (.ins C dx fs) = H1) : Ext H H1 ∧ H1 x = some (.ins C dx fs) := by
  subst h
  exact ⟨upd_ext (upd_ext (Ext.upd hd) hx) hx, upd_same⟩
/-! isinstance against an own class -/
theorem kit_self {K : PySem.W.Frag} {C : Addr} : PySem.W.kitOne K (.ref C) (.ref C) = some true := by
  unfold PySem.W.kitOne
  rw [if_pos (by simp)]
theorem kit_cls_of {K : PySem.W.Frag} {C : Addr} {t : Value} {b : Bool} (h1 : PySem.W.isClsIn K C = true) (h2 : PySem.W.typeIn K (.ref C) = some (.type "type")) (h3 : PySem.W.subIn K t (.ref C) = some b) : PySem.W.kitCls K t (.ref C) = some b := by
  unfold PySem.W.kitCls
  unfold PySem.W.isClsIn at h1
  show (if ((PySem.W.clsIn K C).isSome && PySem.W.typeIn K (.ref C) == some (.type "type")) = true then PySem.W.subIn K t (.ref C) else none) = some b
  rw [h1, h2, if_pos (by simp), h3]
theorem kit_own {K : PySem.W.Frag} {C D : Addr} {b : Bool} (h1 : PySem.W.isClsIn K C = true) (h2 : PySem.W.typeIn K (.ref C) = some (.type "type")) (h3 : PySem.W.subIn K (.ref D) (.ref C) = some b) (hne : ¬ D = C) : PySem.W.kitOne K (.ref D) (.ref C) = some b := by
  unfold PySem.W.kitOne
  rw [if_neg (by simpa using hne)]
  exact kit_cls_of h1 h2 h3
theorem kit_ty {K : PySem.W.Frag} {C : Addr} {n : String} {b : Bool} (h1 : PySem.W.isClsIn K C = true) (h2 : PySem.W.typeIn K (.ref C) = some (.type "type")) (h3 : PySem.W.subIn K (.type n) (.ref C) = some b) : PySem.W.kitOne K (.type n) (.ref C) = some b := by
  unfold PySem.W.kitOne
  rw [if_neg (by simp)]
  exact kit_cls_of h1 h2 h3
/-! fields -/
theorem lookup_ne {f g : Str} {v : V} {fs : List (Str × V)} (h : ¬ g = f) : (putF f v fs).lookup g = fs.lookup g := by rw [lookup_putF, if_neg h]
theorem lookup_eq {f : Str} {v : V} {fs : List (Str × V)} : (putF f v fs).lookup f = some v := by rw [lookup_putF, if_pos rfl]
/-- the fields of a Part -/
def fsP (t l : Int) : List (Str × V) := putF "low" (.int l) (putF "top" (.int t) [])
theorem fsP_top (t l : Int) : (fsP t l).lookup ("top" : Str) = some (.int t) := by
  unfold fsP
  rw [lookup_ne (by decide +kernel), lookup_eq]
theorem fsP_low (t l : Int) : (fsP t l).lookup ("low" : Str) = some (.int l) := lookup_eq
theorem fsP_no (t l : Int) {m : Str} (h1 : ¬ m = "top") (h2 : ¬ m = "low") : (fsP t l).lookup m = none := by
  unfold fsP
  rw [lookup_ne h2, lookup_ne h1]
  rfl
/-- a Part at p -/
def PartAt (C : Addr) (H : Hp) (p : Addr) (t l : Int) : Prop := ∃ dx, H p = some (.ins C dx (fsP t l))
theorem PartAt.ext {C : Addr} {H H1 : Hp} {p : Addr} {t l : Int} (h : PartAt C H p t l) (e : Ext H H1) : PartAt C H1 p t l := let ⟨dx, h⟩ := h; ⟨dx, e _ _ h⟩
def sgn (t : Int) : Int := if t = 0 then 0 else if 0 < t then 1 else -1
/-- how a fraction shows -/
def showP (t l : Int) : Str := if l = 1 then ((toString t : String) : Str) else (((toString t : String) : Str) ++ (Str.ofString "/")) ++ ((toString l : String) : Str)
/-! fractions -/
def gcdI (t l : Int) : Int := ((Nat.gcd t.natAbs l.natAbs : Nat) : Int)
def fracT (t l : Int) : Int := ((if 0 < l then 1 else -1) * t) / gcdI t l
def fracL (t l : Int) : Int := (l.natAbs : Int) / gcdI t l
theorem gcdI_pos {t l : Int} (h : l ≠ 0) : 0 < gcdI t l := by
  unfold gcdI
  have : 0 < Nat.gcd t.natAbs l.natAbs := Nat.gcd_pos_of_pos_right _ (by omega)
  omega
theorem gcdI_le {t l : Int} (h : l ≠ 0) : (gcdI t l).natAbs ≤ l.natAbs := by
  unfold gcdI
  rw [Int.natAbs_natCast]
  exact Nat.le_of_dvd (by omega) (Nat.gcd_dvd_right _ _)
theorem gcdI_dvd_t (t l : Int) : gcdI t l ∣ t := Int.ofNat_dvd_left.mpr (Nat.gcd_dvd_left _ _)
theorem gcdI_dvd_l (t l : Int) : gcdI t l ∣ l := Int.ofNat_dvd_left.mpr (Nat.gcd_dvd_right _ _)
theorem fdiv_neg_dvd {t g : Int} (h : g ∣ t) : t.fdiv (-g) = -(t / g) := by
  rw [Int.fdiv_eq_ediv_of_dvd (Int.neg_dvd.mpr h), Int.ediv_neg]
theorem frac_pos {t l : Int} (h : 0 < l) : t.fdiv (gcdI t l) = fracT t l ∧ l.fdiv (gcdI t l) = fracL t l := by
  refine ⟨?_, ?_⟩
  · unfold fracT
    rw [if_pos h, Int.one_mul, Int.fdiv_eq_ediv_of_dvd (gcdI_dvd_t t l)]
  · unfold fracL
    rw [Int.fdiv_eq_ediv_of_dvd (gcdI_dvd_l t l), Int.natAbs_of_nonneg (by omega)]
theorem frac_neg {t l : Int} (h : l < 0) : t.fdiv (-gcdI t l) = fracT t l ∧ l.fdiv (-gcdI t l) = fracL t l := by
  refine ⟨?_, ?_⟩
  · unfold fracT
    rw [if_neg (by omega), fdiv_neg_dvd (gcdI_dvd_t t l), Int.neg_mul, Int.one_mul, Int.neg_ediv_of_dvd (gcdI_dvd_t t l)]
  · unfold fracL
    rw [fdiv_neg_dvd (gcdI_dvd_l t l), ← Int.neg_ediv_of_dvd (gcdI_dvd_l t l)]
    congr 1
    omega
theorem gcdI_scale {k : Int} (hk : 0 < k) (t l : Int) : gcdI (t * k) (l * k) = gcdI t l * k := by
  unfold gcdI
  rw [Int.natAbs_mul, Int.natAbs_mul, Nat.gcd_mul_right, Int.natCast_mul, Int.natAbs_of_nonneg (by omega)]
theorem frac_scale {k : Int} (hk : 0 < k) (t l : Int) : fracT (t * k) (l * k) = fracT t l ∧ fracL (t * k) (l * k) = fracL t l := by
  have hs : (0 < l * k) ↔ (0 < l) := by
    constructor
    · intro h
      rcases Int.lt_trichotomy l 0 with h1 | h1 | h1
      · have := Int.mul_neg_of_neg_of_pos h1 hk
        omega
      · subst h1; omega
      · exact h1
    · exact fun h => Int.mul_pos h hk
  refine ⟨?_, ?_⟩
  · unfold fracT
    rw [gcdI_scale hk, ← Int.mul_assoc]
    have e : (if 0 < l * k then (1 : Int) else -1) = if 0 < l then 1 else -1 := by
      by_cases h : 0 < l
      · rw [if_pos h, if_pos (hs.mpr h)]
      · rw [if_neg h, if_neg (fun z => h (hs.mp z))]
    rw [e]
    exact Int.mul_ediv_mul_of_pos_left _ _ hk
  · unfold fracL
    rw [gcdI_scale hk, Int.natAbs_mul, Int.natCast_mul, Int.natAbs_of_nonneg (a := k) (by omega)]
    exact Int.mul_ediv_mul_of_pos_left _ _ hk
theorem fracL_pos {t l : Int} (h : l ≠ 0) : 0 < fracL t l := by
  unfold fracL
  have hd : gcdI t l ∣ (l.natAbs : Int) := Int.ofNat_dvd_left.mpr (by rw [Int.natAbs_natCast]; exact Nat.gcd_dvd_right _ _)
  obtain ⟨c, hc⟩ := hd
  have hg := gcdI_pos (t := t) h
  rw [hc, Int.mul_ediv_cancel_left _ (by omega)]
  have h2 : 0 < c * gcdI t l := by rw [Int.mul_comm, ← hc]; omega
  exact Int.pos_of_mul_pos_left h2 hg
/-- a fraction by its two quotients: t = g c, l = g d -/
theorem frac_split {t l : Int} (h : l ≠ 0) : ∃ g c d : Int, 0 < g ∧ t = g * c ∧ l = g * d ∧ ((0 < l ∧ fracT t l = c ∧ fracL t l = d) ∨ (l < 0 ∧ fracT t l = -c ∧ fracL t l = -d)) := by
  have hg := gcdI_pos (t := t) h
  obtain ⟨c, hc⟩ := gcdI_dvd_t t l
  obtain ⟨d, hd⟩ := gcdI_dvd_l t l
  have e1 : t / gcdI t l = c := by
    conv => lhs; lhs; rw [hc]
    exact Int.mul_ediv_cancel_left _ (by omega)
  have e2 : l / gcdI t l = d := by
    conv => lhs; lhs; rw [hd]
    exact Int.mul_ediv_cancel_left _ (by omega)
  refine ⟨gcdI t l, c, d, hg, hc, hd, ?_⟩
  rcases Int.lt_trichotomy l 0 with h1 | h1 | h1
  · refine .inr ⟨h1, ?_, ?_⟩
    · rw [← (frac_neg h1).1, fdiv_neg_dvd (gcdI_dvd_t t l), e1]
    · rw [← (frac_neg h1).2, fdiv_neg_dvd (gcdI_dvd_l t l), e2]
  · exact absurd h1 h
  · refine .inl ⟨h1, ?_, ?_⟩
    · rw [← (frac_pos h1).1, Int.fdiv_eq_ediv_of_dvd (gcdI_dvd_t t l), e1]
    · rw [← (frac_pos h1).2, Int.fdiv_eq_ediv_of_dvd (gcdI_dvd_l t l), e2]
theorem frac_cross {t l : Int} (h : l ≠ 0) : fracT t l * l = t * fracL t l := by
  obtain ⟨g, c, d, _, h1, h2, h3⟩ := frac_split (t := t) h
  rcases h3 with ⟨_, e1, e2⟩ | ⟨_, e1, e2⟩
  · rw [e1, e2]
    conv => lhs; rw [h2]
    conv => rhs; rw [h1]
    rw [Int.mul_left_comm, Int.mul_assoc]
  · rw [e1, e2]
    conv => lhs; rw [h2]
    conv => rhs; rw [h1]
    rw [Int.mul_left_comm, Int.neg_mul, Int.mul_neg, Int.mul_neg, Int.mul_assoc]
theorem fracT_le {t l : Int} (h : l ≠ 0) : (fracT t l).natAbs ≤ t.natAbs := by
  obtain ⟨g, c, d, hg, h1, h2, h3⟩ := frac_split (t := t) h
  have e : (fracT t l).natAbs = c.natAbs := by
    rcases h3 with ⟨_, e1, _⟩ | ⟨_, e1, _⟩
    · rw [e1]
    · rw [e1, Int.natAbs_neg]
  have e2 : t.natAbs = g.natAbs * c.natAbs := by
    conv => lhs; rw [h1]
    exact Int.natAbs_mul _ _
  rw [e, e2]
  exact Nat.le_mul_of_pos_left _ (by omega)
theorem fracL_le {t l : Int} (h : l ≠ 0) : (fracL t l).natAbs ≤ l.natAbs := by
  obtain ⟨g, c, d, hg, h1, h2, h3⟩ := frac_split (t := t) h
  have e : (fracL t l).natAbs = d.natAbs := by
    rcases h3 with ⟨_, _, e1⟩ | ⟨_, _, e1⟩
    · rw [e1]
    · rw [e1, Int.natAbs_neg]
  have e2 : l.natAbs = g.natAbs * d.natAbs := by
    conv => lhs; rw [h2]
    exact Int.natAbs_mul _ _
  rw [e, e2]
  exact Nat.le_mul_of_pos_left _ (by omega)
theorem fracT_zero {t l : Int} (h : l ≠ 0) : fracT t l = 0 ↔ t = 0 := by
  have hc := frac_cross (t := t) h
  have hL := fracL_pos (t := t) h
  constructor
  · intro z
    rw [z, Int.zero_mul] at hc
    rcases Int.mul_eq_zero.mp hc.symm with z | z
    · exact z
    · omega
  · intro z
    rw [z, Int.zero_mul] at hc
    rcases Int.mul_eq_zero.mp hc with z | z
    · rw [← z, ‹t = 0›]
    · exact absurd z h
theorem frac_neg_neg {t l : Int} (h : l ≠ 0) : fracT (-t) (-l) = fracT t l ∧ fracL (-t) (-l) = fracL t l := by
  have eg : gcdI (-t) (-l) = gcdI t l := by
    unfold gcdI
    rw [Int.natAbs_neg, Int.natAbs_neg]
  refine ⟨?_, ?_⟩
  · unfold fracT
    rw [eg]
    congr 1
    by_cases h1 : 0 < l
    · rw [if_pos h1, if_neg (by omega)]
      omega
    · rw [if_neg h1, if_pos (by omega)]
      omega
  · unfold fracL
    rw [eg, Int.natAbs_neg]
/-- T/L is not (T + L)/L, nor (2T + 1)/2L -/
theorem frac_other1 {T L : Int} (hL : 0 < L) : ¬ (T = fracT (T + L) L ∧ L = fracL (T + L) L) := by
  rintro ⟨h1, h2⟩
  have hc := frac_cross (t := T + L) (l := L) (by omega)
  rw [← h1, ← h2, Int.add_mul] at hc
  have : 0 < L * L := Int.mul_pos hL hL
  omega
theorem frac_other2 {T L : Int} (hL : 0 < L) : ¬ (T = fracT (T * 2 + 1) (L * 2) ∧ L = fracL (T * 2 + 1) (L * 2)) := by
  rintro ⟨h1, h2⟩
  have hc := frac_cross (t := T * 2 + 1) (l := L * 2) (by omega)
  rw [← h1, ← h2, Int.add_mul, Int.mul_assoc T 2 L, Int.mul_comm 2 L] at hc
  omega
/-! texts of numbers -/
theorem int_text_len {i : Int} (h : i.natAbs.log2 < 1920) : ((toString i : String) : Str).length ≤ 1921 := PyProof.Rows.int_text_len_1921 h
theorem int_text_low {i : Int} : ∀ c ∈ ((toString i : String) : Str).cps.toList, c < 128 := fun c hc => by
  rcases Nat.lt_or_ge c 128 with h | h
  · exact h
  · exact absurd hc (PyProof.Rows.int_text_free' c ⟨by omega, by omega⟩ i)
/-- a text whose repr has room -/
structure Small (y : Str) (n : Nat) : Prop where
  len : y.length ≤ n
  low : ∀ c ∈ y.cps.toList, c < 128
theorem Small.int {i : Int} (h : i.natAbs.log2 < 1920) : Small ((toString i : String) : Str) 1921 := ⟨int_text_len h, int_text_low⟩
theorem Small.app {x y : Str} {n m : Nat} (a : Small x n) (b : Small y m) : Small (x ++ y) (n + m) := by
  refine ⟨?_, fun c hc => ?_⟩
  · rw [strLen_append]
    exact Nat.add_le_add a.len b.len
  · rw [Str.cps_append, Array.toList_append] at hc
    rcases List.mem_append.mp hc with h | h
    · exact a.low c h
    · exact b.low c h
theorem Small.mono {x : Str} {n m : Nat} (a : Small x n) (h : n ≤ m) : Small x m := ⟨Nat.le_trans a.len h, a.low⟩
theorem Small.repr {y : Str} {n : Nat} (a : Small y n) (h : n ≤ 1000000) : (reprText y).length ≤ sizeLine := by
  have h1 := StrLaws.reprText_len y fun c hc => Nat.lt_of_lt_of_le (a.low c hc) (by decide)
  have h2 := a.len
  have h3 : sizeLine = 16777216 := rfl
  omega
theorem shaped_str {y : Str} {n : Nat} (a : Small y n) : SeqAt.shaped (.str y) = true := by
  have h : (PyData.str y).canLay0 = true := by
    show PySem.PyData.strOk y = true
    unfold PySem.PyData.strOk
    rw [Array.all_eq_true]
    intro j hj
    have := a.low y.cps[j] (by simp)
    exact decide_eq_true (by omega)
  unfold SeqAt.shaped
  rw [h]
  rfl
/-- a dict comprehension's turns over a list that stays -/
theorem dcW_list {K : PySem.W.Frag} {a : Addr} {xs : List V} {g : TG} {tt : TT} {tk tv : TE} {vs : List Nat} {σ : L2.St} {H1 : Hp} {D : Addr} {Qd : Hp → Prop} (Pv : Nat → Hp → Prop) (h0 : Pv 0 (L2.upd H1 D (.dK [])))
    (hl : ∀ i H, i ≤ xs.length → Pv i H → SqL K H a xs)
    (hs : ∀ i x H, xs[i]? = some x → Pv i H → g x (wipe σ vs) H fun σ2 H2 => wipe σ2 vs = wipe σ vs ∧ tt σ2 H2 fun b H3 =>
      if b = true then tk σ2 H3 fun y H4 => tv σ2 H4 fun z H5 => ∃ kvs k, y = kV k ∧ H5 D = some (.dK kvs) ∧ kvs.length < sizeLine ∧ Pv (i + 1) (L2.upd H5 D (.dK (putK kvs k z))) else Pv (i + 1) H3)
    (hd : ∀ H, Pv xs.length H → Qd H) :
    ∃ W : Nat → Nat → Hp → Prop, (∃ m, W 0 m (L2.upd H1 D (.dK []))) ∧ ∀ i m H, W i m H →
      ((Itl K a).stop i H ∧ Qd H) ∨ ((Itl K a).go i H ∧ ∃ Nx : Hp → Prop, (∀ H', Nx H' → ∃ m', m' < m ∧ W (i + 1) m' H') ∧ ∀ x H', (Itl K a).yld i H x H' → g x (wipe σ vs) H' fun σ2 H2 => wipe σ2 vs = wipe σ vs ∧ tt σ2 H2 fun b H3 =>
        if b = true then tk σ2 H3 fun y H4 => tv σ2 H4 fun z H5 => ∃ kvs k, y = kV k ∧ H5 D = some (.dK kvs) ∧ kvs.length < sizeLine ∧ Nx (L2.upd H5 D (.dK (putK kvs k z))) else Nx H3) := by
  refine ⟨fun i m H => m + i = xs.length ∧ Pv i H, ⟨xs.length, rfl, h0⟩, fun i m H w => ?_⟩
  obtain ⟨hm, hp⟩ := w
  have hq := hl i H (by omega) hp
  rcases Nat.lt_or_ge i xs.length with hlt | hge
  · refine .inr ⟨⟨xs, xs[i], hq, by simp [hlt]⟩, Pv (i + 1), fun H' hn => ⟨m - 1, by omega, by omega, hn⟩, fun x H' y => ?_⟩
    obtain ⟨e, y⟩ := y
    subst e
    exact hs i x _ (y xs hq) hp
  · obtain rfl : i = xs.length := by omega
    exact .inl ⟨⟨xs, hq, Nat.le_refl _⟩, hd H hp⟩
/-- sorted of a dict with text keys, by a name -/
def rSortN : List V → Hp → VK → Prop := fun xs H Q => ∃ (a : Addr) (kvs : List (Key × V)) (ks : List Str), xs = [.ref a] ∧ Rd H a (.dK kvs) ∧ kvs.map (·.1) = ks.map Sum.inr ∧ ks.length < 64 ∧ ∀ ys p, ys.Perm ks → sortedS ys = true → H p = none → Q (.ref p) (L2.upd H p (.lst (ys.map V.str)))
theorem cr_sortN {X : Cx} (hc : X.calm = true) : CallR X (.builtin "sorted") rSortN := call_sortedD hc
/-- {k: v for k in sorted(d) if ..} -/
theorem dc_sorted {K : PySem.W.Frag} {j : Nat} {d : Addr} {kvs : List (Key × V)} {ks : List Str} {g : TG} {tt : TT} {tk tv : TE} {vs : List Nat} {σ : L2.St} {H : Hp} {Q : VK} (hv : σ[j]? = some (some (.ref d))) (hd : H d = some (.dK kvs))
    (hk : kvs.map (·.1) = ks.map Sum.inr) (hn : ks.length < 64)
    (h : ∀ (ys : List Str) (s D : Addr) (H1 : Hp), ys.Perm ks → sortedS ys = true → Ext H H1 → H1 s = some (.lst (ys.map V.str)) → H1 D = none →
      ∃ Pv : Nat → Hp → Prop, Pv 0 (L2.upd H1 D (.dK [])) ∧ (∀ i H', Pv i H' → H' s = some (.lst (ys.map V.str))) ∧
        (∀ i x H', ys[i]? = some x → Pv i H' → g (.str x) (wipe σ vs) H' fun σ2 H2 => wipe σ2 vs = wipe σ vs ∧ tt σ2 H2 fun b H3 =>
          if b = true then tk σ2 H3 fun y H4 => tv σ2 H4 fun z H5 => ∃ kvs k, y = kV k ∧ H5 D = some (.dK kvs) ∧ kvs.length < sizeLine ∧ Pv (i + 1) (L2.upd H5 D (.dK (putK kvs k z))) else Pv (i + 1) H3) ∧
        (∀ H', Pv ys.length H' → Q (.ref D) H')) :
    tDc (iList K (tCB rSortN (tCons (tVar j) tNil))) g tt tk tv vs σ H Q := by
  refine ⟨_, hv, d, kvs, ks, rfl, .inl hd, hk, hn, fun ys s hp hs hsn => ⟨s, rfl, ⟨_, ofL upd_same⟩, fun D hD => ?_⟩⟩
  obtain ⟨Pv, h0, h1, h2, h3⟩ := h ys s D _ hp hs (Ext.upd hsn) upd_same hD
  refine dcW_list (a := s) (xs := ys.map V.str) Pv h0 (fun i H' _ p => ofL (h1 i H' p)) (fun i x H' hx p => ?_) (fun H' p => h3 H' (by rw [List.length_map] at p; exact p))
  rw [List.getElem?_map] at hx
  cases e : ys[i]? with
  | none => rw [e] at hx; cases hx
  | some y =>
    rw [e] at hx
    obtain rfl : x = V.str y := (Option.some.inj hx).symm
    exact h2 i y H' e p
end Own

set_option Elab.async false
set_option maxRecDepth 100000
set_option maxHeartbeats 4000000
set_option linter.all false
/-! Defs that are run where nothing is being shown (no repr of a list or tuple is under way): repr of data is then known. -/
namespace Own
open PySem PySem.Spec PyProof.Rows L2
/-- a promise that is kept where no repr is under way -/
structure FnG (P : Program) (w : World) (K : PySem.W.Frag) (mg : Str → Option Value) (base : Heap) (CX : CXT) (k : Nat) (f : Addr) (fd : FuncData) (ps : List Str) (sp : Sp) : Prop where
  len : ∀ vs H Q E, sp vs H Q E → vs.length = ps.length
  run : ∀ (A : Around) (outer : List Env) (s : Shared) (H : Hp) (args : Args) (us : List Value) (vs : List V) (Q : VK) (E : XK), A.guards = some [] → Room k A → Env0 P w K mg base A outer s H →
    BindsTo s fd args (ps.zip us) → Vals vs us → sp vs H Q E → codeAny (model P w) A (.call (.ref f) args) (CR CX outer P w H s Q E) s
section
variable {P : Program} {w : World} {K : PySem.W.Frag} {mg : Str → Option Value} {base : Heap} {CX : CXT} {k : Nat} {f : Addr} {fd : FuncData} {ps : List Str} {sp : Sp}
theorem FnG.of (F : FnOk P w K mg base CX k f fd ps sp) : FnG P w K mg base CX k f fd ps sp := ⟨F.len, fun A outer s H args us vs Q E _ => F.run A outer s H args us vs Q E⟩
/-- a def by its body, as fn_of: no repr is under way in the body either -/
theorem fn_ofG {name qual : Str} {params : Arguments} {body : List Stmt} {scope : Scope} {dV kV doc pm cdv ct oc : Value} {an od : Option Addr} {osl : Array (Option Value)} {N : List Str}
    (lk : K.lookup f = some ⟨oc, od, .func (PySem.W.fnOf name qual params body scope dV kV doc pm an cdv ct), osl⟩) (hcd : PySem.W.codeIn K cdv qual = true) (S : FnScope N ps scope) (len : ∀ vs H Q E, sp vs H Q E → vs.length = ps.length)
    (hbody : ∀ (A : Around) (outer : List Env) (s : Shared) (H : Hp) (vs : List V) (Q : VK) (E : XK), A.guards = some [] → Room k (A.deeper (envOfC qual scope s.heap.objs.size f cdv)) → sp vs H Q E →
      ∃ t, PSs (cxOf CX P w K mg base N qual scope f cdv A outer s H E) body t ∧ t { nx := fun _ H' => Q .non H', rt := Q } (L2.start N vs) H) :
    FnG P w K mg base CX (k + 1) f (PySem.W.fnOf name qual params body scope dV kV doc pm an cdv ct) ps sp := by
  constructor
  · exact len
  · intro A outer s H args us vs Q E hg hr e0 hb r hsp
    have hl : vs.length = ps.length := len vs H Q E hsp
    have sees : ∀ b o, base.get? b = some o → s.heap.get? b = some o := fun b o e => (e0.bs b o e).1
    have KX : K.In s.heap := e0.mod.kin.keeps sees
    have par : ∀ y ∈ ps.zip us, scope.names.lookup y.1 = some .local ∨ (scope.names.lookup y.1 = some .cell ∧ ((cellsFrom (s.heap.objs.size + 1) scope.names []).lookup y.1).isSome = true) := by
      rintro ⟨n, v⟩ hy
      have hn : n ∈ ps := (List.of_mem_zip hy).1
      cases S.par n hn with
      | inl q => exact .inl q
      | inr q => exact .inr ⟨q, PySem.W.cellsFrom_some _ _ _ (.inl q)⟩
    refine codeAny_call_function hr.depth (KX f _ lk) rfl S.co S.gen rfl (PySem.W.codeRec_of KX hcd) ?_
    refine hb _ _ _ _ (wpAny_newFunctionEnv_cells S.kind par ?_)
    intro env he s1 x
    subst he
    refine ⟨(e0.mod.nolimit.keeps sees).keeps x.toInCall.keep, codeAny_func ?_⟩
    obtain ⟨t, ht, hq⟩ := hbody A outer s H vs Q E hg (hr.deeper _) hsp
    refine wpAny_mono (ht.run [] s1 (L2.start N vs) H _ (inv_start S hr.hd e0 hl r x) hq) ?_ (fun e s' z => z)
    intro fl s' hs
    cases fl with
    | brk => exact hs.elim fun _ z => z.elim fun _ z => z.2.elim
    | cont => exact hs.elim fun _ z => z.elim fun _ z => z.2.elim
    | next =>
      obtain ⟨σ', H', J, q⟩ := hs
      exact ⟨V.non, H', J.os, J.bare, J.base, J.hok, rfl, q⟩
    | ret u =>
      obtain ⟨v, σ', H', J, rv, q⟩ := hs
      exact ⟨v, H', J.os, J.bare, J.base, J.hok, rv, q⟩
/-- the same for a def of the text that lets nothing out -/
theorem okG {x qual : Str} {st : Stmt} {N : List Str} (F : Fun K x qual st f fd) (S : FnScope N ps (defScope st)) (len : ∀ vs H Q E, sp vs H Q E → vs.length = ps.length)
    (hbody : ∀ (cdv : Value) (A : Around) (outer : List Env) (s : Shared) (H : Hp) (vs : List V) (Q : VK) (E : XK), A.guards = some [] → Room k (A.deeper (envOfC qual (defScope st) s.heap.objs.size f cdv)) → sp vs H Q E →
      ∃ t, PSs (cxOf CX0 P w K mg base N qual (defScope st) f cdv A outer s H E).nox (defBody st) t ∧ t { nx := fun _ H' => Q .non H', rt := Q } (L2.start N vs) H) : FnG P w K mg base CX0 (k + 1) f fd ps sp := by
  obtain ⟨oc, od, kV, doc, pm, an, cdv, ct, osl, rfl, lk, hcd⟩ := F.ex
  refine fn_ofG lk hcd S len fun A outer s H vs Q E hg hr hsp => ?_
  obtain ⟨t, h, q⟩ := hbody cdv A outer s H vs Q E hg hr hsp
  exact ⟨t, h.nox, q⟩
end
section
variable {X : Cx} {CX : CXT} {k : Nat} {f : Addr} {fd : FuncData} {ps : List Str} {sp : Sp} {E : XK} {x : Str} {p pos : Pos} {e : Expr} {es : List Expr} {t : TA}
/-- f(e, ..) of such a def, from a body in which no repr is under way -/
theorem pe_callG (F : FnG X.prog X.w X.K X.mg X.base CX k f fd ps sp) (hgd : X.A.guards = some []) (hr : Room k X.A) (hg : Gl X x) (hm : X.mg x = some (.ref f)) (hk : PySem.W.keepIn X.K (.ref f) = true) (hb : Binds X.K fd ps []) (hx : Passes CX X E)
    (ha : PA X (e :: es) t) (hdb : (x == ("__debug__" : Str)) = false := by decide) (he : starEach (e :: es) X.env = (false, eval e X.env) :: starEach es X.env := by rfl) (hpl : (backTo pos (starEach es X.env)).any (·.1) = false := by rfl) :
    PE X (.Call (.Name x p) (e :: es) [] pos) (tCall sp [] E t) := by
  constructor
  intro pins s σ H Q I h
  have args := ha.run pos pins s σ H _ I h
  refine wpAny_Call_Name_kw (ld_glob I hg hm ?_ hdb)
  refine PySem.W.callWith_K (h₀ := X.base) I.ok.mod.kin hk (thn args ?_) he hpl
  rintro us s1 ⟨vs, H1, I1, r, q⟩
  refine ⟨I1.kIn, ?_⟩
  rw [List.append_nil] at q
  have hl : (us ++ []).length = ps.length := by rw [List.append_nil, ← r.length]; exact F.len _ _ _ _ q
  have hb2 := hb s1 us I1.kIn hl
  rw [List.append_nil] at hb2
  refine wpAny_call (codeAny_mono (F.run X.A X.stack s1 H1 ⟨us, []⟩ us vs Q E hgd hr I1.env0 hb2 r q) ?_)
  intro z s' hq
  match z, hq with
  | .error e, hq => exact hx pins σ H1 s1 e s' I1 hq
  | .ok (.ret u), hq => exact I1.after hq
  | .ok .next, hq => exact hq.elim
  | .ok .brk, hq => exact hq.elim
  | .ok .cont, hq => exact hq.elim
/-- repr of data: lists, tuples, ints, texts -/
def rReprD (K : PySem.W.Frag) : List V → Hp → VK → Prop := fun vs H Q => ∃ x d, vs = [x] ∧ Dp K H x d ∧ d.showable = true ∧ d.hasDict = false ∧ d.depth ≤ 32 ∧ d.shown.length ≤ sizeLine ∧ Q (.str d.shown) H
end

section
variable {X : Cx}
theorem call_reprD (hgd : X.A.guards = some []) (hr : Room 1 X.A) : CallR X (.builtin "repr") (rReprD X.K) := by
  intro pins s σ H xs us Q I r h
  obtain ⟨x, d, rfl, hd, h1, h2, h3, h4, q⟩ := h
  obtain ⟨u, rfl, ru⟩ := vals1 r
  obtain ⟨as, rd⟩ := Dp.reads I d x u hd ru
  have hu : X.A.units + (d.depth + 1) < cLine := by
    have := hr.units
    omega
  cases hd with
  | non =>
    cases (show u = Value.none from ru)
    exact PySem.P.repr_of_none ⟨.str _, H, I.tok _, ⟨_, rfl⟩, q⟩
  | bl b =>
    cases (show u = Value.bool b from ru)
    exact PySem.P.repr_of_bool ⟨.str _, H, I.tok _, ⟨_, rfl⟩, q⟩
  | int i =>
    obtain ⟨t, rfl⟩ := (show ∃ t, u = Value.int i t from ru)
    exact PySem.P.repr_of_int (of_decide_eq_true h1) ⟨.str _, H, I.tok _, ⟨_, rfl⟩, q⟩
  | str y =>
    obtain ⟨t, rfl⟩ := (show ∃ t, u = Value.str y t from ru)
    exact PySem.P.repr_of_str ⟨.str _, H, I.tok _, ⟨_, rfl⟩, q⟩ h4
  | @lst a xs ds hs ha =>
    cases (show u = Value.ref a from ru)
    exact PySem.repr_of_reads' rd h1 (PyData.noDict_hsm h2) hgd hu (fun _ _ e => e) (fun h' v tk hk => ⟨.str _, H, I.kept hk, ⟨_, rfl⟩, q⟩) h4
  | @tup a xs ds hs ha =>
    cases (show u = Value.ref a from ru)
    exact PySem.repr_of_reads' rd h1 (PyData.noDict_hsm h2) hgd hu (fun _ _ e => e) (fun h' v tk hk => ⟨.str _, H, I.kept hk, ⟨_, rfl⟩, q⟩) h4
end
/-- data that holds no dict is no dict -/
theorem ty_data {K : PySem.W.Frag} {H : Hp} {y : V} {d : PyData} (h : Dp K H y d) : ∃ n, TyX K H y (.type n) ∧ kitB n "dict" = some false := by
  cases h with
  | non => exact ⟨_, .base .non, by decide +kernel⟩
  | bl b => exact ⟨_, .base (.bl b), by decide +kernel⟩
  | int i => exact ⟨_, .base (.int i), by decide +kernel⟩
  | str x => exact ⟨_, .base (.str x), by decide +kernel⟩
  | @lst a xs ds hs _ =>
    rcases hs with (hs | ⟨o, hs⟩) | hs
    · exact ⟨_, .base (.lst hs), by decide +kernel⟩
    · exact ⟨_, .base (.frz hs), by decide +kernel⟩
    · obtain ⟨o, its, n, hk, hc, _⟩ := hs
      exact ⟨_, .kList hk hc, by decide +kernel⟩
  | @tup a xs ds hs _ =>
    rcases hs with (hs | ⟨o, hs⟩) | hs
    · exact ⟨_, .base (.tup hs), by decide +kernel⟩
    · exact ⟨_, .fTuple hs, by decide +kernel⟩
    · obtain ⟨o, its, n, hk, hc, _⟩ := hs
      exact ⟨_, .kTuple hk hc, by decide +kernel⟩
/-! the law's own call: nothing is being shown when it begins -/
theorem ints_vals {vs : List Value} {ns : List Int} (h : IntsAre vs ns) : Vals (ns.map V.int) vs := vals_ints h
theorem law_runG {P : Program} {w : World} {K : PySem.W.Frag} {mg mb : Str → Option Value} {CX : CXT} {k : Nat} {fa a : Addr} {fd : FuncData} {x : Str} {sp : Sp} {s₁ : Shared} {vs : List Value} {H : Hp}
    (hO : Only H) (hA : ∀ b, H b ≠ none → b = a) (hKa : H a ≠ none → K.lookup a = none) (hok : HOk P w H s₁.heap)
    (KX : K.In s₁.heap) (hns : s₁.heap.Ns mainGlobals mg) (hb : s₁.heap.Ns builtinsNs mb) (hbb : ∀ x : Str, x ≠ "__name__" → mb x = bootBuiltins x) (hlim : s₁.heap.NoLimit) (hg : s₁.gens = #[])
    (ha : s₁.heap.get? a = some { cls := .type "list", data := .seq vs.toArray }) (hr : Room k callerA)
    (F : ∀ base : Heap, K.In base → base.Ns mainGlobals mg → FnG P w K mg base CX k fa fd [x] sp) (hbind : ∀ (s : Shared) (u : Value), BindsTo s fd ⟨[u], []⟩ [(x, u)])
    (hsp : sp [.ref a] H (fun v _ => v = .bl true) fun _ _ _ => False) (hCX : ∀ e s', CX [] H s₁ (fun _ _ _ => False) e s' → False) :
    codeAny (model P w) callerA (.call (.ref fa) ⟨[.ref a], []⟩) (fun r s' => r = .ok (.ret (.bool true)) ∧ OldK s₁.heap s'.heap ∧ s'.os = s₁.os ∧ AllBare s'.gens) s₁ := by
  have free : ∀ b, b ≠ a → H b = none := fun b hne => Classical.byContradiction fun z => hne (hA b z)
  have notA : ∀ {o : Obj} {es : Array DictEntry} {ep : Nat} {b : Addr}, s₁.heap.get? b = some o → o.data = .dict es ep → b ≠ a := by
    intro o es ep b e d z
    rw [z, ha] at e
    rw [← Option.some.inj e] at d
    cases d
  have inBase : ∀ {b : Addr} {m : Str → Option Value}, s₁.heap.Ns b m → (hidT s₁.heap H).Ns b m := by
    rintro b m ⟨o, es, ep, e, d, r⟩
    exact ⟨o, es, ep, hidT_get e (free b (notA e d)), d, r⟩
  have KB : K.In (hidT s₁.heap H) := by
    intro b o e
    refine hidT_get (KX b o e) (Classical.byContradiction fun z => ?_)
    have := hKa ((hA b z) ▸ z)
    rw [← hA b z, e] at this
    cases this
  obtain ⟨mc, l1, l2⟩ := hlim
  have M : Mod K mg (hidT s₁.heap H) := ⟨KB, inBase hns, ⟨mb, inBase hb, hbb⟩, ⟨mc, inBase l1, l2⟩⟩
  have none_in : ∀ b, b ∉ ([] : List Addr) := fun b => List.not_mem_nil
  have e0 : Env0 P w K mg (hidT s₁.heap H) callerA [] s₁ H := ⟨rfl, M, fun b o e => of_hidT e, Nat.le_of_eq (hidT_size _ _), trivial, fun b z => absurd z (none_in b), hok, .of_eq hg⟩
  have run := (F _ KB (inBase hns)).run callerA [] s₁ H ⟨[.ref a], []⟩ [.ref a] [.ref a] _ _ rfl hr e0 (hbind s₁ (.ref a)) (.cons rfl .nil) hsp
  refine codeAny_mono run ?_
  intro r s' h
  match r, h with
  | .error e, h => exact (hCX e s' h).elim
  | .ok .next, h => exact h.elim
  | .ok .brk, h => exact h.elim
  | .ok .cont, h => exact h.elim
  | .ok (.ret u), h =>
    obtain ⟨v, H', os, bare, un, hok', rv, rfl⟩ := h
    obtain rfl : u = Value.bool true := rv
    refine ⟨rfl, OldK.of_keep ?_, os, bare⟩
    intro b o e
    cases q : H b with
    | none => exact un.keep b o e q (none_in b) (none_in b)
    | some y =>
      rcases hO b with z | ⟨ob, xs, z⟩
      · rw [q] at z
        cases z
      · have k1 := (hok b _ z).1
        have k2 := (hok' b _ (un.frzs b ob _ z)).1
        rw [e] at k1
        rw [Option.some.inj k1]
        exact k2
theorem law_callG {P : Program} {w : World} {K : PySem.W.Frag} {mg mb : Str → Option Value} {CX : CXT} {k : Nat} {fa a : Addr} {fd : FuncData} {x : Str} {sp : Sp} {s₁ : Shared} {vs : List Value} {ns : List Int}
    (KX : K.In s₁.heap) (hns : s₁.heap.Ns mainGlobals mg) (hb : s₁.heap.Ns builtinsNs mb) (hbb : ∀ x : Str, x ≠ "__name__" → mb x = bootBuiltins x) (hlim : s₁.heap.NoLimit) (hg : s₁.gens = #[])
    (ha : s₁.heap.get? a = some { cls := .type "list", data := .seq vs.toArray }) (hi : IntsAre vs ns) (hl : ns.length ≤ sizeLine) (hr : Room k callerA)
    (F : ∀ base : Heap, K.In base → base.Ns mainGlobals mg → FnG P w K mg base CX k fa fd [x] sp) (hbind : ∀ (s : Shared) (u : Value), BindsTo s fd ⟨[u], []⟩ [(x, u)])
    (hsp : ∀ H : Hp, Only H → SqL K H a (ns.map V.int) → sp [.ref a] H (fun v _ => v = .bl true) fun _ _ _ => False) (hCX : ∀ H e s', CX [] H s₁ (fun _ _ _ => False) e s' → False) :
    codeAny (model P w) callerA (.call (.ref fa) ⟨[.ref a], []⟩) (fun r s' => r = .ok (.ret (.bool true)) ∧ OldK s₁.heap s'.heap ∧ s'.os = s₁.os ∧ AllBare s'.gens) s₁ := by
  have rv := ints_vals hi
  have lv : vs.length = ns.length := hi.length
  cases hk : K.lookup a with
  | some o =>
    have e := KX a o hk
    rw [ha] at e
    obtain rfl := Option.some.inj e
    have hO : Only (fun _ => none) := fun _ => .inl rfl
    have hok : HOk P w (fun _ => none) s₁.heap := fun b u z => by cases (show (none : Option HO) = some u from z)
    exact law_runG hO (fun b z => absurd rfl z) (fun z => absurd rfl z) hok KX hns hb hbb hlim hg ha hr F hbind
      (hsp _ hO (.inr ⟨_, vs.toArray, _, hk, rfl, rfl, rfl, by rw [List.size_toArray, lv]; exact hl, by simpa using rv⟩)) (hCX _)
  | none =>
    let H0 : Hp := fun b => if b = a then some (.frz { cls := .type "list", data := .seq vs.toArray } (.lst (ns.map V.int))) else none
    have at_a : H0 a = some (.frz { cls := .type "list", data := .seq vs.toArray } (.lst (ns.map V.int))) := if_pos rfl
    have off : ∀ b, b ≠ a → H0 b = none := fun b hne => if_neg hne
    have hO : Only H0 := fun b => by
      by_cases e : b = a
      · exact .inr ⟨_, _, e ▸ at_a⟩
      · exact .inl (off b e)
    have hA : ∀ b, H0 b ≠ none → b = a := fun b z => Classical.byContradiction fun e => z (off b e)
    have hok : HOk P w H0 s₁.heap := fun b u z => by
      have e : b = a := hA b (by rw [z]; simp)
      subst e
      rw [at_a] at z
      obtain rfl := Option.some.inj z
      exact ⟨ha, by rw [List.length_map]; exact hl, vs, _, rv, ha⟩
    exact law_runG hO hA (fun _ => hk) hok KX hns hb hbb hlim hg ha hr F hbind (hsp H0 hO (.inl (.inr ⟨_, at_a⟩))) (hCX _)
theorem walk_ofG {l : PySem.W.OpenLaw} {n k : Nat} {q : Program} {loose : List Str} {XP : (Str → Option Value) → Heap → Prop} {YP : World → Heap → Prop} {d : DefRec} {K : Params → PySem.W.Frag} {CX : World → CXT} {sp : World → Sp} {x : Str}
    (hn : l.most = some n) (hn2 : n ≤ sizeLine) (hdf : d.params.defaults = []) (hr : Room k callerA) (hY : ∀ (w : World) (h : Heap), YP w h → (K w.params).In h)
    (F : ∀ (w : World) (mg : Str → Option Value) (fa : Addr) (h : Heap), (K w.params).In h → h.Ns mainGlobals mg → mg d.name = some (.ref fa) →
      ∃ fd : FuncData, (∀ (s : Shared) (u : Value), BindsTo s fd ⟨[u], []⟩ [(x, u)]) ∧ ∀ base : Heap, (K w.params).In base → base.Ns mainGlobals mg → FnG l.prog w (K w.params) mg base (CX w) k fa fd [x] (sp w))
    (hsp : ∀ (w : World) (H : Hp) (a : Addr) (ns : List Int), ns.length ≤ n → Only H → SqL (K w.params) H a (ns.map V.int) → sp w [.ref a] H (fun v _ => v = .bl true) fun _ _ _ => False)
    (hCX : ∀ (w : World) (H : Hp) (s : Shared) (e : Value) (s' : Shared), CX w [] H s (fun _ _ _ => False) e s' → False) :
    PySem.W.WalkO q loose XP YP l.row.toRowW d [] (fun f vs => PySem.call f vs) := by
  refine Att.attach_call hn hdf ?_
  intro w s₀ s₁ mg mb fa o pm cd doc a vs ns G Y ho hd hcd hmg hobj hints hlen hg
  have KX := hY w _ Y
  obtain ⟨fd, hb, hF⟩ := F w mg fa _ KX G.T.g hmg
  exact law_callG KX G.T.g G.T.b G.T.builtins G.T.nolimit hg hobj hints (Nat.le_trans hlen hn2) hr hF hb (fun H hO hS => hsp w H a ns hlen hO hS) (fun H e s' => hCX w H s₁ e s')
end Own

set_option Elab.async false
set_option maxRecDepth 100000
set_option maxHeartbeats 4000000
set_option linter.all false
/-! comprehensions by walks; names -/
namespace Own
open PySem PySem.Spec PyProof.Rows L2
theorem tLc_i {wi : TI} {g : TG} {tt : TT} {te : TE} {vs : List Nat} {σ : L2.St} {H H1 : Hp} {Q : VK} {J : It} {n : Nat} {G : Hp → Prop} {Y : Nat → Hp → V → Hp → Prop} (hwi : ∀ R : It → Hp → Prop, R J H1 → wi σ H R) (w : Walk J n G Y)
    (h : ∀ D, H1 D = none → ∃ Pv : Nat → Hp → Prop, Pv 0 (L2.upd H1 D (.lst [])) ∧ (∀ i H, i ≤ n → Pv i H → G H) ∧
      (∀ i x H H', i < n → Pv i H → Y i H x H' → g x (wipe σ vs) H' fun σ2 H2 => wipe σ2 vs = wipe σ vs ∧ tt σ2 H2 fun b H3 =>
        if b = true then te σ2 H3 fun y H4 => ∃ acc, H4 D = some (.lst acc) ∧ acc.length < sizeLine ∧ Pv (i + 1) (L2.upd H4 D (.lst (acc ++ [y]))) else Pv (i + 1) H3) ∧
      (∀ H, Pv n H → Q (.ref D) H)) : tLc wi g tt te vs σ H Q :=
  hwi _ fun D hD => by
    obtain ⟨Pv, h0, hG, hs, hd⟩ := h D hD
    exact lc_it w Pv h0 hG hs hd
theorem tFor_i {wi : TI} {g : TG} {tb : TS} {D : Ends} {σ : L2.St} {H H1 : Hp} {J : It} {n : Nat} {G : Hp → Prop} {Y : Nat → Hp → V → Hp → Prop} (hwi : ∀ R : It → Hp → Prop, R J H1 → wi σ H R) (w : Walk J n G Y)
    (Pv : Nat → L2.St → Hp → Prop) (h0 : Pv 0 σ H1) (hG : ∀ i σ H, i ≤ n → Pv i σ H → G H)
    (hs : ∀ i x σ H H', i < n → Pv i σ H → Y i H x H' → g x σ H' fun σ2 H2 => tb { D with nx := Pv (i + 1), ct := Pv (i + 1), bk := D.nx } σ2 H2) (hd : ∀ σ H, Pv n σ H → D.nx σ H) : tFor wi g tb D σ H :=
  hwi _ (for_it w Pv h0 hG hs hd)
/-! ### texts of small letters -/
def Low (c : Nat) : Prop := 97 ≤ c ∧ c ≤ 122
/-- a text of n letters a to z -/
structure Let (z : Str) (n : Nat) : Prop where
  len : z.length = n
  low : ∀ c ∈ z.cps.toList, Low c
theorem len_list (z : Str) : z.length = z.cps.toList.length := by simp [Str.length]
theorem Let.app {x y : Str} {n m : Nat} (a : Let x n) (b : Let y m) : Let (x ++ y) (n + m) := by
  refine ⟨?_, fun c hc => ?_⟩
  · rw [strLen_append, a.len, b.len]
  · rw [Str.cps_append, Array.toList_append] at hc
    rcases List.mem_append.mp hc with h | h
    · exact a.low c h
    · exact b.low c h
theorem Let.one {c : Nat} (h : Low c) : Let ⟨#[c]⟩ 1 := ⟨rfl, fun d hd => by
  have : d = c := by simpa using hd
  exact this ▸ h⟩
theorem Let.small {z : Str} {n : Nat} (a : Let z n) : Small z n := ⟨Nat.le_of_eq a.len, fun c hc => by have := a.low c hc; unfold Low at this; omega⟩
theorem Let.cut {z : Str} {n : Nat} (a : Let z n) (k : Nat) : Let (cutS z none (some (k : Int))) (min k n) ∧ Let (cutS z (some (k : Int)) none) (n - min k n) := by
  have e : z.cps.toList.length = n := by rw [← len_list]; exact a.len
  refine ⟨⟨?_, fun c hc => ?_⟩, ⟨?_, fun c hc => ?_⟩⟩
  · rw [len_list]
    show (((z.cps.toList.drop 0).take (HT.sIx z.length z.length (some (k : Int)) - 0)).toArray.toList).length = _
    rw [HT.sIx_nat, a.len, List.drop_zero]
    simp only [List.length_take, e]
    omega
  · unfold cutS at hc
    exact a.low c (List.mem_of_mem_drop (List.mem_of_mem_take hc))
  · rw [len_list]
    show (((z.cps.toList.drop (HT.sIx z.length 0 (some (k : Int)))).take (z.length - HT.sIx z.length 0 (some (k : Int)))).toArray.toList).length = _
    rw [HT.sIx_nat, a.len]
    simp only [List.length_take, List.length_drop, e]
    omega
  · unfold cutS at hc
    exact a.low c (List.mem_of_mem_drop (List.mem_of_mem_take hc))
/-- the twenty-six letters -/
abbrev abc : Str := Str.ofString "abcdefghijklmnopqrstuvwxyz"
theorem abc_list : abc.cps.toList = List.range' 97 26 := by decide +kernel
theorem abc_at {k : Int} (h0 : 0 ≤ k) (h1 : k < 26) : atI abc.cps.toList k = some (97 + k.toNat) ∧ Low (97 + k.toNat) := by
  obtain ⟨v, e1, e2⟩ := atI_lt (xs := abc.cps.toList) h0 (by rw [abc_list, List.length_range']; omega)
  rw [abc_list, List.getElem?_range' (by omega)] at e1
  refine ⟨?_, by unfold Low; omega⟩
  rw [e2, ← e1, Nat.one_mul]
theorem Let.nil : Let Str.empty 0 := ⟨rfl, fun c hc => by simp [Str.empty] at hc⟩
theorem join_let' : ∀ (ys : List Str), (∀ y ∈ ys, Let y 1) → Let (Str.join Str.empty ys) ys.length
  | [], _ => Let.nil
  | [x], h => h x List.mem_cons_self
  | x :: z :: r, h => by
    have ih := join_let' (z :: r) fun y hy => h y (List.mem_cons_of_mem _ hy)
    have hx := h x List.mem_cons_self
    have e : Str.join Str.empty (x :: z :: r) = x ++ Str.empty ++ Str.join Str.empty (z :: r) := rfl
    rw [e]
    have := (hx.app Let.nil).app ih
    rw [show (x :: z :: r).length = 1 + 0 + (z :: r).length by simp only [List.length_cons]; omega]
    exact this
theorem join_let (ys : List Str) (h : ∀ y ∈ ys, Let y 1) : Let (PySem.Txt.join Str.empty ys) ys.length := by
  rw [TL.join_eq]
  exact join_let' ys h
/-- sep.join(list of texts), by a name -/
def rJoinN (K : PySem.W.Frag) : V → List V → Hp → VK → Prop := fun x xs H Q => ∃ a p, ∃ ys : List Str, x = .str a ∧ xs = [.ref p] ∧ (SqL K H p (ys.map V.str) ∨ SqT K H p (ys.map V.str)) ∧ (ys.map (·.length)).sum + ys.length * a.length ≤ 16777216 ∧ Q (.str (PySem.Txt.join a ys)) H
theorem pe_joinN {X : Cx} {o e : Expr} {to te : TE} {apos pos : Pos} (ho : PE X o to) (he : PE X e te) (hs : starEach [e] X.env = [(false, eval e X.env)] := by rfl) (hbase : attributeBase o "join" X.env (eval o X.env) = eval o X.env := by rfl) (hline : (apos.endLine == pos.line) = true := by rfl) :
    PE X (.Call (.Attribute o "join" apos) [e] [] pos) (tM1 (rJoinN X.K) to te) := pe_join ho he hs hbase hline
/-! rules within a comprehension's block: the written part by its own name -/
section
variable {X : Cx} {K : PySem.W.Frag}
theorem inK (h : X.K = K) : OpR X (compareOp .In) (rIn K false) := h ▸ op_in_seq
theorem notInK (h : X.K = K) : OpR X (compareOp .NotIn) (rIn K true) := h ▸ op_notIn_seq
theorem ixLK (h : X.K = K) : IxR X (rIxL K) := h ▸ ix_list
theorem ixTK (h : X.K = K) : IxR X (rIxT K) := h ▸ ix_tup
theorem slLK (h : X.K = K) : SlR X (rSlL K) := h ▸ sl_list
theorem isiK (h : X.K = K) : CallR X (.builtin "isinstance") (rIsi K) := h ▸ call_isi
theorem fldK {e : Expr} {ta : TE} {f : Str} {pos : Pos} (h : X.K = K) (he : PE X e ta) (hb : attributeBase e f X.env (eval e X.env) = eval e X.env) : PE X (.Attribute e f pos) (tFld K ta f) := h ▸ pe_fld he hb
end
/-! a text among texts -/
theorem in_strs {z : Str} {zs : List Str} : inV (.str z) (zs.map V.str) = true ↔ z ∈ zs := by
  unfold inV
  rw [List.any_map, List.any_eq_true]
  constructor
  · rintro ⟨y, hy, e⟩
    have e : eqV (.str y) (.str z) = true := e
    have : y = z := by simpa [eqV] using e
    exact this ▸ hy
  · exact fun h => ⟨z, h, by simp [eqV]⟩
theorem flat_strs (zs : List Str) : (zs.map V.str).all flatV = true := by
  rw [List.all_map, List.all_eq_true]
  exact fun _ _ => rfl
/-- the spare names -/
def cand (c t : Nat) : Str := ⟨#[122, c, 105 + t]⟩
theorem cand_let {c t : Nat} (hc : Low c) (ht : t < 12) : Let (cand c t) 3 := ⟨rfl, fun d hd => by
  have hd : d = 122 ∨ d = c ∨ d = 105 + t := by simpa [cand] using hd
  unfold Low at hc ⊢
  omega⟩
theorem cands_nd (c : Nat) : ((List.range 12).map (cand c)).Nodup := by
  rw [List.nodup_iff_pairwise_ne, List.pairwise_map]
  refine (List.nodup_range (n := 12)).imp ?_
  intro i j hne e
  have : 105 + i = 105 + j := by
    have := congrArg (fun z : Str => z.cps[2]?) e
    simpa [cand] using this
  omega
/-! ### the pigeons -/
theorem nodup_le {α : Type} [DecidableEq α] : ∀ {l m : List α}, l.Nodup → (∀ x ∈ l, x ∈ m) → l.length ≤ m.length
  | [], _, _, _ => Nat.zero_le _
  | x :: l, m, hn, h => by
    have hx : x ∈ m := h x List.mem_cons_self
    have hn' := List.nodup_cons.mp hn
    have ih := nodup_le (l := l) (m := m.erase x) hn'.2 fun y hy => (List.mem_erase_of_ne (fun e : y = x => hn'.1 (e ▸ hy))).mpr (h y (List.mem_cons_of_mem _ hy))
    rw [List.length_erase_of_mem hx] at ih
    have := List.length_pos_of_mem hx
    rw [List.length_cons]
    omega
abbrev tails : Str := Str.ofString "ijklmnopqrst"
theorem tails_size : tails.cps.size = 12 := by decide +kernel
theorem tails_list : tails.cps.toList = List.range' 105 12 := by decide +kernel
theorem tails_at {i c : Nat} (h : tails.cps[i]? = some c) : i < 12 ∧ c = 105 + i := by
  rw [← Array.getElem?_toList, tails_list] at h
  have hi := (List.getElem?_eq_some_iff.mp h).1
  rw [List.length_range'] at hi
  rw [List.getElem?_range' hi] at h
  exact ⟨hi, by have := Option.some.inj h; omega⟩
theorem cand_app (c t : Nat) : (Str.ofString "z" ++ (⟨#[c]⟩ : Str)) ++ (⟨#[t]⟩ : Str) = ⟨#[122, c, t]⟩ := by
  have e : Str.ofString "z" = ⟨#[122]⟩ := by decide +kernel
  rw [e]
  rfl
/-- some spare name is not taken -/
theorem cand_free {zs : List Str} {c : Nat} (h : zs.length < 12) : ¬ ∀ t, t < 12 → cand c t ∈ zs := fun z => by
  have := nodup_le (cands_nd c) fun x hx => by
    obtain ⟨t, ht, e⟩ := List.mem_map.mp hx
    exact e ▸ z t (List.mem_range.mp ht)
  rw [List.length_map, List.length_range] at this
  omega
/-! written tuples -/
def SqtK (K : PySem.W.Frag) (p : Addr) (xs : List V) : Prop := ∃ (o : Obj) (its : Array Value) (n : Nat), K.lookup p = some o ∧ o.cls = .type "tuple" ∧ o.data = .seq its n ∧ its.size ≤ sizeLine ∧ Vals xs its.toList
theorem SqtK.sq {K : PySem.W.Frag} {p : Addr} {xs : List V} (h : SqtK K p xs) (H : Hp) : SqT K H p xs := .inr h
/-! rows of names and numbers -/
/-- a row's cell -/
abbrev rowH (r : Str × Int) : HO := .tup [.str r.1, .int r.2]
def RowsIn (H : Hp) (ts : List Addr) (rs : List (Str × Int)) : Prop := Paired (fun t r => H t = some (rowH r)) ts rs
def RowsAt (H : Hp) (p : Addr) (rs : List (Str × Int)) : Prop := ∃ ts : List Addr, H p = some (.lst (ts.map V.ref)) ∧ RowsIn H ts rs
theorem pmono {α β : Type} {F G : α → β → Prop} (h : ∀ x y, F x y → G x y) : ∀ {xs : List α} {ys : List β}, Paired F xs ys → Paired G xs ys
  | _, _, .nil => .nil
  | _, _, .cons a b => .cons (h _ _ a) (pmono h b)
theorem RowsIn.ext {H H' : Hp} {ts : List Addr} {rs : List (Str × Int)} (h : RowsIn H ts rs) (e : Ext H H') : RowsIn H' ts rs := pmono (fun _ _ z => e _ _ z) h
theorem RowsAt.ext {H H' : Hp} {p : Addr} {rs : List (Str × Int)} (h : RowsAt H p rs) (e : Ext H H') : RowsAt H' p rs := by
  obtain ⟨ts, h1, h2⟩ := h
  exact ⟨ts, e _ _ h1, h2.ext e⟩
/-- another list is written -/
theorem RowsIn.upd {H : Hp} {q : Addr} {xs : List V} {u : HO} {ts : List Addr} {rs : List (Str × Int)} (h : RowsIn H ts rs) (hq : H q = some (.lst xs)) : RowsIn (L2.upd H q u) ts rs := pmono (fun t r z => by
  by_cases e : t = q
  · rw [e, hq] at z
    cases z
  · rw [upd_ne e]
    exact z) h
theorem RowsIn.len {H : Hp} {ts : List Addr} {rs : List (Str × Int)} (h : RowsIn H ts rs) : ts.length = rs.length := Paired.length h
theorem RowsIn.get {H : Hp} : ∀ {ts : List Addr} {rs : List (Str × Int)} {i : Nat} {t : Addr}, RowsIn H ts rs → ts[i]? = some t → ∃ r, rs[i]? = some r ∧ H t = some (rowH r)
  | _, _, _, _, .nil, e => by simp at e
  | _, _, 0, _, .cons a _, e => by
    cases (Option.some.inj e)
    exact ⟨_, rfl, a⟩
  | _, _, i + 1, _, .cons _ b, e => RowsIn.get (i := i) b (by simpa using e)
theorem RowsIn.snoc {H : Hp} {ts : List Addr} {rs : List (Str × Int)} {t : Addr} {r : Str × Int} (h : RowsIn H ts rs) (e : H t = some (rowH r)) : RowsIn H (ts ++ [t]) (rs ++ [r]) := Paired.snoc h e
def rowD (r : Str × Int) : PyData := .tuple [.str r.1, .int r.2]
theorem RowsIn.dp {K : PySem.W.Frag} {H : Hp} : ∀ {ts : List Addr} {rs : List (Str × Int)}, RowsIn H ts rs → DpAll K H (ts.map V.ref) (rs.map rowD)
  | _, _, .nil => .nil
  | _, _, .cons a b => .cons (.tup (ofT a) (.cons (.str _) (.cons (.int _) .nil))) (RowsIn.dp b)
theorem RowsAt.dp {K : PySem.W.Frag} {H : Hp} {p : Addr} {rs : List (Str × Int)} (h : RowsAt H p rs) : Dp K H (.ref p) (.list (rs.map rowD)) := by
  obtain ⟨ts, h1, h2⟩ := h
  exact .lst (ofL h1) h2.dp
end Own

set_option Elab.async false
set_option maxRecDepth 100000
set_option maxHeartbeats 4000000
set_option linter.all false
/-! data that may be held against itself and shown -/
namespace Own
open PySem PySem.Spec PyProof.Rows L2
/-- what _law_same may be asked of -/
structure Neat (d : PyData) : Prop where
  lay : d.canLay0 = true
  show_ : d.showable = true
  deep : d.depth ≤ 32
  len : d.shown.length ≤ sizeLine
theorem Neat.shaped {d : PyData} (h : Neat d) : SeqAt.shaped d = true := by
  unfold SeqAt.shaped
  rw [h.lay, Bool.true_and]
  exact decide_eq_true (Nat.le_trans h.deep (by decide))
theorem Neat.noDict {d : PyData} (h : Neat d) : d.hasDict = false := PyData.hasDict_of_canLay d h.lay
theorem Neat.refl {d : PyData} (h : Neat d) : PyData.eqv d d = true := SeqAt.eqv_refl d h.lay
/-- the same, with a bound of its own for the text and for the depth -/
structure Mild (d : PyData) (n k : Nat) : Prop where
  lay : d.canLay0 = true
  show_ : d.showable = true
  deep : d.depth ≤ k
  len : d.shown.length ≤ n
theorem Mild.neat {d : PyData} {n k : Nat} (h : Mild d n k) (hn : n ≤ 16777216) (hk : k ≤ 32) : Neat d := ⟨h.lay, h.show_, Nat.le_trans h.deep hk, Nat.le_trans h.len hn⟩
theorem Mild.mono {d : PyData} {n k m j : Nat} (h : Mild d n k) (hn : n ≤ m) (hk : k ≤ j) : Mild d m j := ⟨h.lay, h.show_, Nat.le_trans h.deep hk, Nat.le_trans h.len hn⟩
theorem Mild.int {i : Int} (h : i.natAbs.log2 < 1920) : Mild (.int i) 1921 0 := ⟨rfl, decide_eq_true h, Nat.le_refl _, int_text_len h⟩
theorem Mild.str {y : Str} {n : Nat} (a : Small y n) : Mild (.str y) (2 + 10 * n) 0 := by
  refine ⟨?_, rfl, Nat.le_refl _, ?_⟩
  · show PySem.PyData.strOk y = true
    unfold PySem.PyData.strOk
    rw [Array.all_eq_true]
    intro j hj
    have := a.low y.cps[j] (by simp)
    exact decide_eq_true (by omega)
  · show (reprText y).length ≤ _
    have h1 := StrLaws.reprText_len y fun c hc => Nat.lt_of_lt_of_le (a.low c hc) (by decide)
    have h2 := a.len
    omega
theorem textFrom_le : ∀ (ts : List Str) (k : Nat) (acc : Str), (textFrom k acc ts).length ≤ acc.length + (ts.map fun t => t.length + 2).sum
  | [], k, acc => by
    show acc.length ≤ acc.length + 0
    omega
  | t :: r, k, acc => by
    have h := textFrom_le r (k + 1) (acc ++ (if k > 0 then ", " else "" : String) ++ t)
    have e : (acc ++ (if k > 0 then ", " else "" : String) ++ t).length = acc.length + (if k > 0 then 2 else 0) + t.length := by
      rw [strLen_append, strLen_append]
      by_cases hk : k > 0
      · rw [if_pos hk, if_pos hk]
        rfl
      · rw [if_neg hk, if_neg hk]
        rfl
    have e2 : textFrom k acc (t :: r) = textFrom (k + 1) (acc ++ (if k > 0 then ", " else "" : String) ++ t) r := rfl
    rw [e2, List.map_cons, List.sum_cons]
    rw [e] at h
    have hs : (if k > 0 then 2 else 0) ≤ 2 := by split <;> omega
    omega
theorem join_le : ∀ ts : List Str, (Str.join ", " ts).length ≤ (ts.map fun t => t.length + 2).sum
  | [] => Nat.le_of_eq rfl
  | [x] => by
    show x.length ≤ x.length + 2 + 0
    omega
  | x :: y :: r => by
    have h := join_le (y :: r)
    have e : Str.join ", " (x :: y :: r) = x ++ (", " : Str) ++ Str.join ", " (y :: r) := rfl
    have e2 : ((", " : Str)).length = 2 := by decide +kernel
    rw [e, strLen_append, strLen_append, e2, List.map_cons, List.sum_cons]
    omega
theorem sum_le {m : Nat} : ∀ {ts : List Str}, (∀ t ∈ ts, t.length ≤ m) → (ts.map fun t => t.length + 2).sum ≤ ts.length * (m + 2)
  | [], _ => Nat.le_of_eq (Nat.zero_mul _).symm
  | t :: r, h => by
    have h1 := sum_le fun x hx => h x (List.mem_cons_of_mem _ hx)
    have h2 := h t List.mem_cons_self
    rw [List.map_cons, List.sum_cons, List.length_cons, Nat.succ_mul]
    omega
theorem all_mild {n k : Nat} : ∀ {ds : List PyData}, (∀ d ∈ ds, Mild d n k) → PyData.canLayAll0 ds = true ∧ PyData.showableAll ds = true ∧ PyData.depthAll ds ≤ k ∧ (PyData.shownAll ds).length = ds.length ∧ ∀ t ∈ PyData.shownAll ds, t.length ≤ n
  | [], _ => ⟨rfl, rfl, Nat.zero_le _, rfl, fun t ht => absurd ht List.not_mem_nil⟩
  | d :: ds, h => by
    obtain ⟨h1, h2, h3, h4, h5⟩ := all_mild fun x hx => h x (List.mem_cons_of_mem _ hx)
    have hd := h d List.mem_cons_self
    refine ⟨?_, ?_, ?_, ?_, ?_⟩
    · show (d.canLay0 && PyData.canLayAll0 ds) = true
      rw [hd.lay, h1]
      rfl
    · show (d.showable && PyData.showableAll ds) = true
      rw [hd.show_, h2]
      rfl
    · show max d.depth (PyData.depthAll ds) ≤ k
      exact Nat.max_le.mpr ⟨hd.deep, h3⟩
    · show (PyData.shownAll ds).length + 1 = ds.length + 1
      rw [h4]
    · intro t ht
      rcases List.mem_cons.mp (show t ∈ d.shown :: PyData.shownAll ds from ht) with e | e
      · rw [e]
        exact hd.len
      · exact h5 t e
theorem Mild.list {ds : List PyData} {n k m : Nat} (h : ∀ d ∈ ds, Mild d n k) (hm : ds.length ≤ m) : Mild (.list ds) (2 + m * (n + 2)) (k + 1) := by
  obtain ⟨h1, h2, h3, h4, h5⟩ := all_mild h
  refine ⟨h1, h2, Nat.succ_le_succ h3, ?_⟩
  show (listText (PyData.shownAll ds)).length ≤ _
  have a := textFrom_le (PyData.shownAll ds) 0 "["
  have b := sum_le h5
  rw [h4] at b
  have c : ds.length * (n + 2) ≤ m * (n + 2) := Nat.mul_le_mul_right _ hm
  have e : (listText (PyData.shownAll ds)).length = (textFrom 0 "[" (PyData.shownAll ds)).length + 1 := by
    show (textFrom 0 "[" (PyData.shownAll ds) ++ _).length = _
    rw [strLen_append]
    rfl
  have e1 : ((("[" : String) : Str)).length = 1 := by decide +kernel
  rw [e1] at a
  omega
theorem Mild.tuple {ds : List PyData} {n k m : Nat} (h : ∀ d ∈ ds, Mild d n k) (hm : ds.length ≤ m) : Mild (.tuple ds) (3 + m * (n + 2)) (k + 1) := by
  obtain ⟨h1, h2, h3, h4, h5⟩ := all_mild h
  refine ⟨h1, h2, Nat.succ_le_succ h3, ?_⟩
  show (tupleText (PyData.shownAll ds)).length ≤ _
  have a := join_le (PyData.shownAll ds)
  have b := sum_le h5
  rw [h4] at b
  have c : ds.length * (n + 2) ≤ m * (n + 2) := Nat.mul_le_mul_right _ hm
  have e : (tupleText (PyData.shownAll ds)).length ≤ (Str.join ", " (PyData.shownAll ds)).length + 3 := by
    show (("(" : Str) ++ Str.join ", " (PyData.shownAll ds) ++ (if (PyData.shownAll ds).length == 1 then ",)" else ")" : String)).length ≤ _
    rw [strLen_append, strLen_append]
    have e1 : (("(" : Str)).length = 1 := by decide +kernel
    have e2 : ((",)" : String) : Str).length = 2 := by decide +kernel
    have e3 : ((")" : String) : Str).length = 1 := by decide +kernel
    rw [e1]
    split
    · rw [e2]; omega
    · rw [e3]; omega
  omega
/-- a row of a name and a number -/
theorem Mild.row {r : Str × Int} {n : Nat} (a : Small r.1 n) (hn : n ≤ 100) (h : r.2.natAbs.log2 < 1920) : Mild (rowD r) 4000 1 := by
  refine (Mild.tuple (n := 1921) (k := 0) (m := 2) (fun d hd => ?_) (Nat.le_refl _)).mono (by decide) (Nat.le_refl _)
  rcases List.mem_cons.mp hd with e | e
  · rw [e]
    exact (Mild.str a).mono (by omega) (Nat.le_refl _)
  · rw [List.mem_singleton.mp e]
    exact Mild.int h
end Own

set_option Elab.async false
set_option maxRecDepth 100000
set_option maxHeartbeats 4000000
set_option linter.all false
/-! fractions in lowest terms are the core library's rationals -/
namespace Own
open PySem PySem.Spec PyProof.Rows L2
theorem gcd_int (t l : Int) : gcdI t l = ((l.gcd t : Nat) : Int) := by
  unfold gcdI
  rw [Nat.gcd_comm]
  rfl
theorem fracT_rat {t l : Int} (h : l ≠ 0) : fracT t l = (Rat.divInt t l).num := by
  rw [Rat.num_divInt]
  unfold fracT
  rw [gcd_int]
  congr 2
  split
  · rename_i hp
    exact (Int.sign_eq_one_of_pos hp).symm
  · rename_i hp
    exact (Int.sign_eq_neg_one_of_neg (by omega)).symm
theorem fracL_rat {t l : Int} (h : l ≠ 0) : fracL t l = ((Rat.divInt t l).den : Int) := by
  rw [Rat.den_divInt, if_neg h]
  unfold fracL
  rw [gcd_int, Int.natCast_ediv]
/-- a rational of few digits -/
structure Sz (x : Rat) (b : Nat) : Prop where
  n : x.num.natAbs < 2 ^ b
  d : x.den < 2 ^ b
theorem Sz.mono {x : Rat} {b c : Nat} (h : Sz x b) (e : b ≤ c) : Sz x c := ⟨Nat.lt_of_lt_of_le h.n (Nat.pow_le_pow_right (by decide) e), Nat.lt_of_lt_of_le h.d (Nat.pow_le_pow_right (by decide) e)⟩
theorem Sz.of {t l : Int} {b : Nat} (h : l ≠ 0) (h1 : t.natAbs < 2 ^ b) (h2 : l.natAbs < 2 ^ b) : Sz (Rat.divInt t l) b := by
  refine ⟨?_, ?_⟩
  · rw [← fracT_rat h]
    exact Nat.lt_of_le_of_lt (fracT_le h) h1
  · have e := fracL_rat (t := t) h
    have := fracL_le (t := t) h
    have : (Rat.divInt t l).den = (fracL t l).natAbs := by rw [e]; rfl
    omega
theorem den_ne (x : Rat) : (x.den : Int) ≠ 0 := by
  have := x.den_pos
  omega
theorem rat_add (x y : Rat) : Rat.divInt (x.num * y.den + y.num * x.den) (x.den * y.den) = x + y := by
  rw [← Rat.divInt_add_divInt _ _ (den_ne x) (den_ne y), Rat.num_divInt_den, Rat.num_divInt_den]
theorem rat_mul (x y : Rat) : Rat.divInt (x.num * y.num) (x.den * y.den) = x * y := by
  rw [← Rat.divInt_mul_divInt, Rat.num_divInt_den, Rat.num_divInt_den]
theorem rat_div (x y : Rat) : Rat.divInt (x.num * y.den) (x.den * y.num) = x / y := by
  rw [← Rat.divInt_mul_divInt, Rat.num_divInt_den, Rat.div_def, ← Rat.inv_divInt, Rat.num_divInt_den]
theorem mul_ne {a b : Int} (h1 : a ≠ 0) (h2 : b ≠ 0) : a * b ≠ 0 := fun z => (Int.mul_eq_zero.mp z).elim h1 h2
theorem natAbs_den (x : Rat) : (x.den : Int).natAbs = x.den := rfl
theorem lt_mul {a b c d : Nat} (h1 : a < 2 ^ b) (h2 : c < 2 ^ d) : a * c < 2 ^ (b + d) := by
  rw [Nat.pow_add]
  exact Nat.mul_lt_mul'' h1 h2
theorem Sz.add {x y : Rat} {b c : Nat} (h1 : Sz x b) (h2 : Sz y c) : Sz (x + y) (b + c + 1) := by
  rw [← rat_add]
  refine Sz.of (mul_ne (den_ne x) (den_ne y)) ?_ ?_
  · have a1 : (x.num * (y.den : Int)).natAbs < 2 ^ (b + c) := by rw [Int.natAbs_mul]; exact lt_mul h1.n h2.d
    have a2 : (y.num * (x.den : Int)).natAbs < 2 ^ (b + c) := by rw [Int.natAbs_mul, Nat.mul_comm]; exact lt_mul h1.d h2.n
    have a3 := Int.natAbs_add_le (x.num * (y.den : Int)) (y.num * (x.den : Int))
    rw [Nat.pow_succ]
    omega
  · rw [Int.natAbs_mul]
    exact Nat.lt_of_lt_of_le (lt_mul h1.d h2.d) (Nat.pow_le_pow_right (by decide) (by omega))
theorem Sz.mul {x y : Rat} {b c : Nat} (h1 : Sz x b) (h2 : Sz y c) : Sz (x * y) (b + c) := by
  rw [← rat_mul]
  refine Sz.of (mul_ne (den_ne x) (den_ne y)) ?_ ?_
  · rw [Int.natAbs_mul]
    exact lt_mul h1.n h2.n
  · rw [Int.natAbs_mul]
    exact lt_mul h1.d h2.d
theorem Sz.int {i : Int} {b : Nat} (h : i.natAbs < 2 ^ b) (hb : 1 ≤ b) : Sz (Rat.divInt i 1) b := Sz.of (by decide) h (Nat.lt_of_lt_of_le (show (1 : Int).natAbs < 2 ^ 1 by decide) (Nat.pow_le_pow_right (by decide) hb))
/-- an instance of Part that is x -/
def PartR (C : Addr) (H : Hp) (p : Addr) (x : Rat) : Prop := PartAt C H p x.num x.den
theorem PartR.ext {C : Addr} {H H' : Hp} {p : Addr} {x : Rat} (h : PartR C H p x) (e : Ext H H') : PartR C H' p x := by
  obtain ⟨d, h⟩ := h
  exact ⟨d, e _ _ h⟩
/-- a tuple that is x -/
def TupR (H : Hp) (p : Addr) (x : Rat) : Prop := H p = some (.tup [.int x.num, .int x.den])
theorem TupR.ext {H H' : Hp} {p : Addr} {x : Rat} (h : TupR H p x) (e : Ext H H') : TupR H' p x := e _ _ h
end Own

set_option Elab.async false
set_option maxRecDepth 100000
set_option maxHeartbeats 4000000
set_option linter.all false
/-! tables: each key once -/
namespace Own
open PySem PySem.Spec PyProof.Rows L2
section
variable {κ : Type} [DecidableEq κ]
/-- each key stands once -/
def Uniq (kvs : List (κ × V)) : Prop := (kvs.map (·.1)).Nodup
theorem Uniq.nil : Uniq ([] : List (κ × V)) := List.nodup_nil
theorem keys_put_old {kvs : List (κ × V)} {k : κ} {v : V} (h : (kvs.any fun kv => decide (kv.1 = k)) = true) : (putK kvs k v).map (·.1) = kvs.map (·.1) := by
  unfold putK
  rw [if_pos h, List.map_map]
  refine List.map_congr_left fun p hp => ?_
  show (if p.1 = k then (p.1, v) else p).1 = p.1
  split <;> rfl
theorem Uniq.put {kvs : List (κ × V)} (h : Uniq kvs) (k : κ) (v : V) : Uniq (putK kvs k v) := by
  cases e : valV kvs k with
  | none => exact nd_putK v h e
  | some x =>
    unfold Uniq
    rw [keys_put_old (by rw [valV_any, e]; rfl)]
    exact h
theorem Uniq.get : ∀ {kvs : List (κ × V)}, Uniq kvs → ∀ {p : κ × V}, p ∈ kvs → valV kvs p.1 = some p.2
  | [], _, _, hp => absurd hp List.not_mem_nil
  | q :: r, h, p, hp => by
    have h : (q.1 :: r.map (·.1)).Nodup := h
    rw [List.nodup_cons] at h
    rcases List.mem_cons.mp hp with e | e
    · rw [e]
      exact valV_pos rfl
    · rw [valV_neg fun z => h.1 (z ▸ List.mem_map.mpr ⟨p, e, rfl⟩)]
      exact Uniq.get (kvs := r) h.2 e
/-- what is so of each value -/
def AllV (P : V → Prop) (kvs : List (κ × V)) : Prop := ∀ p ∈ kvs, P p.2
theorem AllV.nil {P : V → Prop} : AllV P ([] : List (κ × V)) := fun _ h => absurd h List.not_mem_nil
theorem mem_put {kvs : List (κ × V)} {k : κ} {v : V} {p : κ × V} (h : p ∈ putK kvs k v) : p ∈ kvs ∨ p = (k, v) := by
  unfold putK at h
  split at h
  · obtain ⟨q, hq, e⟩ := List.mem_map.mp h
    by_cases z : q.1 = k
    · rw [if_pos z] at e
      exact .inr (by rw [← e, z])
    · rw [if_neg z] at e
      exact .inl (e ▸ hq)
  · rcases List.mem_append.mp h with h | h
    · exact .inl h
    · exact .inr (List.mem_singleton.mp h)
theorem AllV.put {P : V → Prop} {kvs : List (κ × V)} (h : AllV P kvs) (k : κ) {v : V} (hv : P v) : AllV P (putK kvs k v) := fun p hp => by
  rcases mem_put hp with e | e
  · exact h p e
  · rw [e]
    exact hv
theorem mem_of_val {kvs : List (κ × V)} {k : κ} {v : V} (h : valV kvs k = some v) : ∃ p ∈ kvs, p.1 = k ∧ p.2 = v := by
  unfold valV at h
  cases e : kvs.find? fun kv => decide (kv.1 = k) with
  | none => rw [e] at h; cases h
  | some p =>
    rw [e] at h
    exact ⟨p, List.mem_of_find?_eq_some e, of_decide_eq_true (List.find?_some (p := fun kv : κ × V => decide (kv.1 = k)) e), Option.some.inj h⟩
theorem AllV.val {P : V → Prop} {kvs : List (κ × V)} (h : AllV P kvs) {k : κ} {v : V} (e : valV kvs k = some v) : P v := by
  obtain ⟨p, hp, _, e2⟩ := mem_of_val e
  exact e2 ▸ h p hp
end
/-- an int -/
abbrev IsI (v : V) : Prop := ∃ i, v = V.int i
theorem pick5 {P : Int → Prop} {a b c d e k : Int} (h0 : 0 ≤ k) (h1 : k < 5) (ha : P a) (hb : P b) (hc : P c) (hd : P d) (he : P e) : ∃ v, atI [V.int a, .int b, .int c, .int d, .int e] k = some (.int v) ∧ P v := by
  rcases (by omega : k = 0 ∨ k = 1 ∨ k = 2 ∨ k = 3 ∨ k = 4) with rfl | rfl | rfl | rfl | rfl
  · exact ⟨a, rfl, ha⟩
  · exact ⟨b, rfl, hb⟩
  · exact ⟨c, rfl, hc⟩
  · exact ⟨d, rfl, hd⟩
  · exact ⟨e, rfl, he⟩
theorem pick2 {P : Int → Prop} {a b k : Int} (h0 : 0 ≤ k) (h1 : k < 2) (ha : P a) (hb : P b) : ∃ v, atI [V.int a, .int b] k = some (.int v) ∧ P v := by
  rcases (by omega : k = 0 ∨ k = 1) with rfl | rfl
  · exact ⟨a, rfl, ha⟩
  · exact ⟨b, rfl, hb⟩
theorem drawn6 {ds : List Int} {a b c d e f : Int} (h : Paired (fun d z => 0 ≤ d ∧ d < z) ds [a, b, c, d, e, f]) : ∃ u v w x y z : Int, ds = [u, v, w, x, y, z] ∧ (0 ≤ u ∧ u < a) ∧ (0 ≤ v ∧ v < b) ∧ (0 ≤ w ∧ w < c) ∧ (0 ≤ x ∧ x < d) ∧ (0 ≤ y ∧ y < e) ∧ (0 ≤ z ∧ z < f) := by
  cases h with
  | cons h1 h =>
    obtain ⟨v, w, x, y, z, rfl, h2⟩ := drawn5 h
    exact ⟨_, _, _, _, _, _, rfl, h1, h2⟩
/-- a name of the list -/
theorem str_at {zs : List Str} {k : Int} (h0 : 0 ≤ k) (h1 : k < zs.length) : ∃ z, z ∈ zs ∧ atI (zs.map V.str) k = some (V.str z) := by
  obtain ⟨v, e1, e2⟩ := atI_lt (xs := zs) h0 h1
  exact ⟨v, List.mem_of_getElem? e1, atI_map e2⟩
theorem Neat.bl (b : Bool) : Neat (.bool b) := by
  cases b
  · exact ⟨rfl, rfl, by decide, by decide +kernel⟩
  · exact ⟨rfl, rfl, by decide, by decide +kernel⟩
end Own
namespace Own
open PySem PySem.Spec PyProof.Rows L2
/-! a dict that is walked -/
/-- all cells but d stay -/
def Off (d : Addr) (H H' : Hp) : Prop := ∀ b o, H b = some o → b ≠ d → H' b = some o
theorem Off.upd {d : Addr} {H : Hp} {u : HO} : Off d H (L2.upd H d u) := fun b o hb hne => by
  rw [upd_ne hne]
  exact hb
theorem Off.ext {d : Addr} {H H' H2 : Hp} (h : Off d H H') (e : Ext H' H2) : Off d H H2 := fun b o hb hne => e _ _ (h b o hb hne)
theorem Ext.off {d : Addr} {H H' H2 : Hp} (e : Ext H H') (h : Off d H' H2) : Off d H H2 := fun b o hb hne => h b o (e _ _ hb) hne
theorem Off.trans {d : Addr} {H H' H2 : Hp} (h : Off d H H') (h2 : Off d H' H2) : Off d H H2 := fun b o hb hne => h2 b o (h b o hb hne) hne
/-- behind the walk all is as ahead of it, and what is new -/
theorem lock_out {d : Addr} {od : Obj} {H H' : Hp} {u : HO} (hd : H d = some u) (e : Ext (L2.upd H d (.frz od u)) H') : Ext H (L2.upd H' d u) := fun b o hb => by
  by_cases z : b = d
  · rw [z] at hb ⊢
    rw [upd_same, ← hb, hd]
  · rw [upd_ne z]
    exact e _ _ (by rw [upd_ne z]; exact hb)
theorem rd_frz {d : Addr} {od : Obj} {H H' : Hp} {u : HO} (e : Ext (L2.upd H d (.frz od u)) H') : H' d = some (.frz od u) := e _ _ upd_same
theorem rd_lock {d s : Addr} {od : Obj} {H H' : Hp} {u u2 : HO} (hd : H d = some u) (hs : H s = some u2) (e : Ext (L2.upd H d (.frz od u)) H') : Rd H' s u2 := by
  by_cases z : s = d
  · rw [z, hd] at hs
    rw [z, ← Option.some.inj hs]
    exact .inr ⟨od, rd_frz e⟩
  · exact .inl (e _ _ (by rw [upd_ne z]; exact hs))
theorem off_lock {d : Addr} {od : Obj} {H H' : Hp} {u : HO} (e : Ext (L2.upd H d (.frz od u)) H') : Off d H H' := Off.upd.ext e
theorem PartR.off {C d p : Addr} {H H' : Hp} {x : Rat} {kvs : List (Key × V)} (h : PartR C H p x) (hd : H d = some (.dK kvs)) (e : Off d H H') : PartR C H' p x := by
  obtain ⟨q, h⟩ := h
  exact ⟨q, e _ _ h fun z => by rw [z, hd] at h; cases h⟩
theorem TupR.off {d p : Addr} {H H' : Hp} {x : Rat} {kvs : List (Key × V)} (h : TupR H p x) (hd : H d = some (.dK kvs)) (e : Off d H H') : TupR H' p x := by
  unfold TupR at h ⊢
  exact e _ _ h fun z => by rw [z, hd] at h; cases h
theorem seqL_off {K : PySem.W.Frag} {H H' : Hp} {p d : Addr} {xs : List V} {kvs : List (Key × V)} (h : SqL K H p xs) (hd : H d = some (.dK kvs)) (e : Off d H H') : SqL K H' p xs := by
  have ne : ∀ {u}, H p = some u → (∀ k, u ≠ .dK k) → p ≠ d := fun {u} hu hk z => by
    rw [z, hd] at hu
    exact hk kvs (Option.some.inj hu).symm
  rcases h with (h | ⟨o, h⟩) | h
  · exact .inl (.inl (e _ _ h (ne h fun k z => by cases z)))
  · exact .inl (.inr ⟨o, e _ _ h (ne h fun k z => by cases z)⟩)
  · exact .inr h
end Own
namespace Own
open PySem PySem.Spec PyProof.Rows L2
/-! rows of a name and a part; bags -/
def RowP (C : Addr) (H : Hp) (t : Addr) (e : Str × Rat) : Prop := ∃ q, H t = some (.tup [.str e.1, .ref q]) ∧ PartR C H q e.2
theorem rowP_ext {C : Addr} {H H' : Hp} {ts : List Addr} {es : List (Str × Rat)} (h : Paired (RowP C H) ts es) (e : Ext H H') : Paired (RowP C H') ts es := pmono (fun t r z => by
  obtain ⟨q, z1, z2⟩ := z
  exact ⟨q, e _ _ z1, z2.ext e⟩) h
theorem PartR.offL {C d p : Addr} {H H' : Hp} {x : Rat} {xs : List V} (h : PartR C H p x) (hd : H d = some (.lst xs)) (e : Off d H H') : PartR C H' p x := by
  obtain ⟨q, h⟩ := h
  exact ⟨q, e _ _ h fun z => by rw [z, hd] at h; cases h⟩
theorem rowP_offL {C d : Addr} {H H' : Hp} {ts : List Addr} {es : List (Str × Rat)} {xs : List V} (h : Paired (RowP C H) ts es) (hd : H d = some (.lst xs)) (e : Off d H H') : Paired (RowP C H') ts es := pmono (fun t r z => by
  obtain ⟨q, z1, z2⟩ := z
  exact ⟨q, e _ _ z1 (fun y => by rw [y, hd] at z1; cases z1), z2.offL hd e⟩) h
/-- the parts of a bag: names and tuples -/
def TR (H : Hp) (kv : Key × V) (e : Str × Rat) : Prop := ∃ t, kv = (Sum.inr e.1, V.ref t) ∧ TupR H t e.2
theorem tr_ext {H H' : Hp} {kvs : List (Key × V)} {es : List (Str × Rat)} (h : Paired (TR H) kvs es) (e : Ext H H') : Paired (TR H') kvs es := pmono (fun kv r z => by
  obtain ⟨t, z1, z2⟩ := z
  exact ⟨t, z1, z2.ext e⟩) h
theorem tr_off {d : Addr} {H H' : Hp} {kvs ks : List (Key × V)} {es : List (Str × Rat)} (h : Paired (TR H) kvs es) (hd : H d = some (.dK ks)) (e : Off d H H') : Paired (TR H') kvs es := pmono (fun kv r z => by
  obtain ⟨t, z1, z2⟩ := z
  exact ⟨t, z1, z2.off hd e⟩) h
theorem tr_keys {H : Hp} : ∀ {kvs : List (Key × V)} {es : List (Str × Rat)}, Paired (TR H) kvs es → kvs.map (·.1) = (es.map (·.1)).map Sum.inr
  | _, _, .nil => rfl
  | _, _, .cons a b => by
    obtain ⟨t, h1, _⟩ := a
    rw [List.map_cons, List.map_cons, List.map_cons, tr_keys b, h1]
theorem inr_nodup {ns : List Str} (h : ns.Nodup) : (ns.map (Sum.inr : Str → Key)).Nodup := by
  rw [List.nodup_iff_pairwise_ne, List.pairwise_map]
  exact (List.nodup_iff_pairwise_ne.mp h).imp fun hne z => hne (Sum.inr.inj z)
theorem tr_uniq {H : Hp} {kvs : List (Key × V)} {es : List (Str × Rat)} (h : Paired (TR H) kvs es) (nd : (es.map (·.1)).Nodup) : Uniq kvs := by
  unfold Uniq
  rw [tr_keys h]
  exact inr_nodup nd
end Own
namespace Own
open PySem PySem.Spec PyProof.Rows L2
theorem none_back {H H' : Hp} {p : Addr} (e : Ext H H') (h : H' p = none) : H p = none := by
  cases z : H p with
  | none => rfl
  | some o => rw [e _ _ z] at h; cases h
theorem none_upd {H : Hp} {p q : Addr} {u : HO} (h : L2.upd H q u p = none) : H p = none := by
  by_cases z : p = q
  · rw [z, upd_same] at h
    cases h
  · rwa [upd_ne z] at h
theorem ne_of_new {H : Hp} {p q : Addr} {o : HO} (h : H p = none) (hq : H q = some o) : p ≠ q := fun z => by rw [z, hq] at h; cases h
end Own
namespace Own
open PySem PySem.Spec PyProof.Rows L2
theorem drawn2 {ds : List Int} {a b : Int} (h : Paired (fun d z => 0 ≤ d ∧ d < z) ds [a, b]) : ∃ v w : Int, ds = [v, w] ∧ (0 ≤ v ∧ v < a) ∧ (0 ≤ w ∧ w < b) := by
  cases h with
  | cons h1 h => cases h with
    | cons h2 h => cases h with
      | nil => exact ⟨_, _, rfl, h1, h2⟩
theorem pick3 {P : Int → Prop} {a b c k : Int} (h0 : 0 ≤ k) (h1 : k < 3) (ha : P a) (hb : P b) (hc : P c) : ∃ v, atI [V.int a, .int b, .int c] k = some (.int v) ∧ P v := by
  rcases (by omega : k = 0 ∨ k = 1 ∨ k = 2) with rfl | rfl | rfl
  · exact ⟨a, rfl, ha⟩
  · exact ⟨b, rfl, hb⟩
  · exact ⟨c, rfl, hc⟩
end Own

set_option Elab.async false
set_option maxRecDepth 100000
set_option maxHeartbeats 4000000
set_option linter.all false
/-! sums by name: rows in any order, and the one list of names that rise -/
namespace Own
open PySem PySem.Spec PyProof.Rows L2
/-! ### texts in order -/
def leS (a b : Str) : Prop := ltCps b.cps.toList a.cps.toList = false
theorem leS_iff {a b : Str} : leS a b ↔ a.cps.toList ≤ b.cps.toList := by
  unfold leS
  rw [ltCps_eq, decide_eq_false_iff_not]
  exact List.not_lt
theorem leS_trans {a b c : Str} (h : leS a b) (h2 : leS b c) : leS a c := leS_iff.mpr (List.le_trans (leS_iff.mp h) (leS_iff.mp h2))
theorem str_ext {a b : Str} (h : a.cps.toList = b.cps.toList) : a = b := by
  cases a
  cases b
  congr 1
  exact Array.toList_inj.mp h
theorem leS_anti {a b : Str} (h : leS a b) (h2 : leS b a) : a = b := str_ext (List.le_antisymm (leS_iff.mp h) (leS_iff.mp h2))
theorem rising_pw : ∀ {l : List Str} {p : Str}, risingS p l = true → (p :: l).Pairwise leS
  | [], p, _ => List.pairwise_singleton _ _
  | x :: r, p, h => by
    have h : (!ltCps x.cps.toList p.cps.toList && risingS x r) = true := h
    rw [Bool.and_eq_true, Bool.not_eq_true'] at h
    have ih := rising_pw h.2
    refine List.pairwise_cons.mpr ⟨fun y hy => ?_, ih⟩
    rcases List.mem_cons.mp hy with e | e
    · rw [e]
      exact h.1
    · exact leS_trans (b := x) h.1 ((List.pairwise_cons.mp ih).1 y e)
theorem sorted_pw : ∀ {l : List Str}, sortedS l = true → l.Pairwise leS
  | [], _ => List.Pairwise.nil
  | _ :: _, h => rising_pw h
/-- rising names of the same kind are the same -/
theorem names_eq {a b : List Str} (ha : a.Pairwise leS) (hb : b.Pairwise leS) (na : a.Nodup) (nb : b.Nodup) (h : ∀ n, n ∈ a ↔ n ∈ b) : a = b :=
  List.Perm.eq_of_pairwise (le := leS) (fun _ _ _ _ h1 h2 => leS_anti h1 h2) ha hb ((List.perm_ext_iff_of_nodup na nb).mpr h)
/-! ### sums by name -/
def val : List (Str × Rat) → Str → Rat
  | [], _ => 0
  | e :: es, n => (if e.1 = n then e.2 else 0) + val es n
theorem val_append {n : Str} : ∀ {a b : List (Str × Rat)}, val (a ++ b) n = val a n + val b n
  | [], b => (Rat.zero_add _).symm
  | e :: a, b => by
    show _ + val (a ++ b) n = _ + val a n + val b n
    rw [val_append, Rat.add_assoc]
theorem val_miss {n : Str} : ∀ {es : List (Str × Rat)}, n ∉ es.map (·.1) → val es n = 0
  | [], _ => rfl
  | e :: es, h => by
    show (if e.1 = n then e.2 else 0) + val es n = 0
    rw [if_neg fun z => h (List.mem_cons.mpr (.inl z.symm)), val_miss fun z => h (List.mem_cons_of_mem _ z), Rat.zero_add]
theorem val_mem {n : Str} : ∀ {es : List (Str × Rat)} {e : Str × Rat}, (es.map (·.1)).Nodup → e ∈ es → val es e.1 = e.2
  | [], _, _, h => absurd h List.not_mem_nil
  | f :: es, e, nd, h => by
    have nd := List.nodup_cons.mp nd
    show (if f.1 = e.1 then f.2 else 0) + val es e.1 = e.2
    rcases List.mem_cons.mp h with z | z
    · rw [z, if_pos rfl, val_miss (z ▸ nd.1), Rat.add_zero]
    · rw [if_neg fun y => nd.1 (List.mem_map.mpr ⟨e, z, y.symm⟩), Rat.zero_add]
      exact val_mem (n := n) nd.2 z
/-- rising names, each once, no nought -/
structure Canon (hs : List (Str × Rat)) : Prop where
  up : (hs.map (·.1)).Pairwise leS
  nd : (hs.map (·.1)).Nodup
  nz : ∀ e ∈ hs, e.2 ≠ 0
theorem Canon.nil : Canon [] := ⟨List.Pairwise.nil, List.nodup_nil, fun _ h => absurd h List.not_mem_nil⟩
theorem Canon.mem {hs : List (Str × Rat)} (h : Canon hs) {n : Str} : n ∈ hs.map (·.1) ↔ val hs n ≠ 0 := by
  constructor
  · intro hn
    obtain ⟨e, he, rfl⟩ := List.mem_map.mp hn
    rw [val_mem (n := e.1) h.nd he]
    exact h.nz e he
  · intro hn
    exact Classical.byContradiction fun z => hn (val_miss z)
theorem Canon.eq {hs gs : List (Str × Rat)} (h : Canon hs) (g : Canon gs) (e : ∀ n, val hs n = val gs n) : hs = gs := by
  have en : hs.map (·.1) = gs.map (·.1) := names_eq h.up g.up h.nd g.nd fun n => by rw [h.mem, g.mem, e n]
  have hm : ∀ {xs : List (Str × Rat)}, (xs.map (·.1)).Nodup → xs = (xs.map (·.1)).map fun n => (n, val xs n) := fun {xs} nd => by
    rw [List.map_map]
    conv => lhs; rw [← List.map_id xs]
    exact List.map_congr_left fun x hx => by
      show x = (x.1, val xs x.1)
      rw [val_mem (n := x.1) nd hx]
  rw [hm h.nd, hm g.nd, en]
  exact List.map_congr_left fun n _ => by rw [e n]
/-- what stays of rising names where the noughts go -/
theorem Canon.of {ys : List Str} (hs : ys.Pairwise leS) (nd : ys.Nodup) (f : Str → Option (Str × Rat)) (hf : ∀ n e, f n = some e → e.1 = n ∧ e.2 ≠ 0) : Canon (ys.filterMap f) := by
  have sub : ((ys.filterMap f).map (·.1)).Sublist ys := by
    clear hs nd
    induction ys with
    | nil => exact List.Sublist.refl _
    | cons y ys ih =>
      rw [List.filterMap_cons]
      cases e : f y with
      | none => exact ih.cons _
      | some x =>
        show (x.1 :: (ys.filterMap f).map (·.1)).Sublist (y :: ys)
        rw [(hf y x e).1]
        exact ih.cons₂ _
  refine ⟨hs.sublist sub, nd.sublist sub, fun e he => ?_⟩
  obtain ⟨n, _, h⟩ := List.mem_filterMap.mp he
  exact (hf n e h).2
/-- a sum of few digits -/
theorem val_sz {n : Str} {b : Nat} : ∀ {es : List (Str × Rat)}, (∀ e ∈ es, Sz e.2 b) → Sz (val es n) (1 + es.length * (b + 1))
  | [], _ => ⟨by show (0 : Rat).num.natAbs < _; exact Nat.lt_of_lt_of_le (show (0 : Rat).num.natAbs < 2 ^ 1 by decide +kernel) (Nat.pow_le_pow_right (by decide) (by omega)), by show (0 : Rat).den < _; exact Nat.lt_of_lt_of_le (show (0 : Rat).den < 2 ^ 1 by decide +kernel) (Nat.pow_le_pow_right (by decide) (by omega))⟩
  | e :: es, h => by
    have ih := val_sz (n := n) fun x hx => h x (List.mem_cons_of_mem _ hx)
    have he := h e List.mem_cons_self
    show Sz ((if e.1 = n then e.2 else 0) + val es n) _
    rw [List.length_cons]
    split
    · refine (he.add ih).mono ?_
      rw [Nat.succ_mul]
      omega
    · rw [Rat.zero_add]
      refine ih.mono ?_
      rw [Nat.succ_mul]
      omega
theorem Canon.sz {hs : List (Str × Rat)} (h : Canon hs) {es : List (Str × Rat)} {b : Nat} (e : ∀ n, val hs n = val es n) (hb : ∀ x ∈ es, Sz x.2 b) : ∀ x ∈ hs, Sz x.2 (1 + es.length * (b + 1)) := fun x hx => by
  rw [← val_mem (n := x.1) h.nd hx, e]
  exact val_sz hb
/-- one more, summed by its name -/
def addR : List (Str × Rat) → Str → Rat → List (Str × Rat)
  | [], n, x => [(n, x)]
  | e :: es, n, x => if e.1 = n then (n, e.2 + x) :: es else e :: addR es n x
theorem val_addR {n m : Str} {x : Rat} : ∀ {es : List (Str × Rat)}, val (addR es n x) m = val es m + (if n = m then x else 0)
  | [] => by
    show (if n = m then x else 0) + 0 = 0 + _
    rw [Rat.zero_add, Rat.add_zero]
  | e :: es => by
    show val (if e.1 = n then (n, e.2 + x) :: es else e :: addR es n x) m = ((if e.1 = m then e.2 else 0) + val es m) + _
    by_cases h : e.1 = n
    · rw [if_pos h]
      show (if n = m then e.2 + x else 0) + val es m = _
      rw [h]
      by_cases g : n = m
      · rw [if_pos g, if_pos g, if_pos g]
        grind
      · rw [if_neg g, if_neg g, if_neg g]
        grind
    · rw [if_neg h]
      show (if e.1 = m then e.2 else 0) + val (addR es n x) m = _
      rw [val_addR, Rat.add_assoc]
theorem addR_names {n : Str} {x : Rat} : ∀ {es : List (Str × Rat)}, (∀ m ∈ (addR es n x).map (·.1), m = n ∨ m ∈ es.map (·.1)) ∧ ((es.map (·.1)).Nodup → ((addR es n x).map (·.1)).Nodup)
  | [] => ⟨fun m hm => .inl (List.mem_singleton.mp hm), fun _ => by
    show [n].Nodup
    simp⟩
  | e :: es => by
    have ih := addR_names (n := n) (x := x) (es := es)
    by_cases h : e.1 = n
    · have e1 : (addR (e :: es) n x).map (·.1) = (e :: es).map (·.1) := by
        show List.map (·.1) (if e.1 = n then (n, e.2 + x) :: es else e :: addR es n x) = _
        rw [if_pos h]
        show n :: _ = e.1 :: _
        rw [h]
      rw [e1]
      exact ⟨fun m hm => .inr hm, id⟩
    · have e1 : (addR (e :: es) n x).map (·.1) = e.1 :: (addR es n x).map (·.1) := by
        show List.map (·.1) (if e.1 = n then (n, e.2 + x) :: es else e :: addR es n x) = _
        rw [if_neg h]
        rfl
      rw [e1]
      refine ⟨fun m hm => ?_, fun nd => ?_⟩
      · rcases List.mem_cons.mp hm with z | z
        · exact .inr (z ▸ List.mem_cons_self)
        · rcases ih.1 m z with z | z
          · exact .inl z
          · exact .inr (List.mem_cons_of_mem _ z)
      · have nd := List.nodup_cons.mp nd
        refine List.nodup_cons.mpr ⟨fun z => ?_, ih.2 nd.2⟩
        rcases ih.1 _ z with z | z
        · exact h z
        · exact nd.1 z
theorem addR_len {n : Str} {x : Rat} : ∀ {es : List (Str × Rat)}, (addR es n x).length ≤ es.length + 1
  | [] => Nat.le_refl _
  | e :: es => by
    have := addR_len (n := n) (x := x) (es := es)
    show (if e.1 = n then (n, e.2 + x) :: es else e :: addR es n x).length ≤ _
    split
    · simp
    · simp only [List.length_cons]
      omega
theorem addR_miss {n : Str} {x : Rat} : ∀ {es : List (Str × Rat)}, n ∉ es.map (·.1) → addR es n x = es ++ [(n, x)]
  | [], _ => rfl
  | e :: es, hn => by
    have h1 : ¬ e.1 = n := fun z => hn (List.mem_cons.mpr (.inl z.symm))
    show (if e.1 = n then (n, e.2 + x) :: es else e :: addR es n x) = _
    rw [if_neg h1, addR_miss fun z => hn (List.mem_cons_of_mem _ z)]
    rfl
end Own
namespace Own
open PySem PySem.Spec PyProof.Rows L2
/-! ### dicts of names whose values are sums -/
def Ent (R : Addr → Rat → Prop) (kv : Key × V) (e : Str × Rat) : Prop := ∃ q, kv = (Sum.inr e.1, V.ref q) ∧ R q e.2
section
variable {R R' : Addr → Rat → Prop} {kvs : List (Key × V)} {es : List (Str × Rat)} {n : Str} {x : Rat}
theorem ent_mono (h : Paired (Ent R) kvs es) (m : ∀ q z, R q z → R' q z) : Paired (Ent R') kvs es := pmono (fun _ _ z => by
  obtain ⟨q, z1, z2⟩ := z
  exact ⟨q, z1, m _ _ z2⟩) h
theorem ent_keys : ∀ {kvs : List (Key × V)} {es : List (Str × Rat)}, Paired (Ent R) kvs es → kvs.map (·.1) = (es.map (·.1)).map Sum.inr
  | _, _, .nil => rfl
  | _, _, .cons a b => by
    obtain ⟨t, h1, _⟩ := a
    rw [List.map_cons, List.map_cons, List.map_cons, ent_keys b, h1]
theorem ent_uniq (h : Paired (Ent R) kvs es) (nd : (es.map (·.1)).Nodup) : Uniq kvs := by
  unfold Uniq
  rw [ent_keys h]
  exact inr_nodup nd
theorem ent_miss : ∀ {kvs : List (Key × V)} {es : List (Str × Rat)}, Paired (Ent R) kvs es → n ∉ es.map (·.1) → ∀ kv ∈ kvs, ¬ kv.1 = Sum.inr n
  | _, _, .nil, _, kv, hk => absurd hk List.not_mem_nil
  | _, _, .cons a b, hn, kv, hk => by
    rcases List.mem_cons.mp hk with e | e
    · obtain ⟨t, h1, _⟩ := a
      rw [e, h1]
      intro z
      exact hn (List.mem_cons.mpr (.inl (Sum.inr.inj z).symm))
    · exact ent_miss b (fun z => hn (List.mem_cons_of_mem _ z)) kv e
theorem val_none {kvs : List (Key × V)} {k : Key} (h : ∀ kv ∈ kvs, ¬ kv.1 = k) : valV kvs k = none := by
  unfold valV
  rw [List.find?_eq_none.mpr fun kv hkv => by simpa using h kv hkv]
  rfl
theorem put_new {kvs : List (Key × V)} {k : Key} {v : V} (h : ∀ kv ∈ kvs, ¬ kv.1 = k) : putK kvs k v = kvs ++ [(k, v)] := L2.putK_new v (val_none h)
theorem ent_get : ∀ {kvs : List (Key × V)} {es : List (Str × Rat)} {e : Str × Rat}, Paired (Ent R) kvs es → (es.map (·.1)).Nodup → e ∈ es → ∃ q, valV kvs (Sum.inr e.1) = some (V.ref q) ∧ R q e.2
  | _, _, e, .nil, _, hn => absurd hn List.not_mem_nil
  | kv :: kvs, e0 :: es, e, .cons a b, nd, hn => by
    have nd := List.nodup_cons.mp nd
    obtain ⟨t, h1, h2⟩ := a
    rcases List.mem_cons.mp hn with z | z
    · exact ⟨t, by rw [valV_pos (by rw [h1, z]), h1], z ▸ h2⟩
    · obtain ⟨q, g1, g2⟩ := ent_get b nd.2 z
      refine ⟨q, ?_, g2⟩
      rw [valV_neg]
      · exact g1
      · rw [h1]
        intro y
        exact nd.1 (List.mem_map.mpr ⟨e, z, (Sum.inr.inj y).symm⟩)
theorem ent_put_new (h : Paired (Ent R) kvs es) (hn : n ∉ es.map (·.1)) {r : Addr} (hr : R r x) : Paired (Ent R) (putK kvs (Sum.inr n) (V.ref r)) (addR es n x) := by
  rw [put_new (ent_miss h hn), addR_miss hn]
  exact Paired.snoc h ⟨r, rfl, hr⟩
theorem map_same {v : V} {kvs : List (Key × V)} (h : ∀ kv ∈ kvs, ¬ kv.1 = Sum.inr n) : kvs.map (fun kv => if kv.1 = Sum.inr n then (kv.1, v) else kv) = kvs := by
  conv => rhs; rw [← List.map_id kvs]
  exact List.map_congr_left fun kv hk => if_neg (h kv hk)
theorem ent_map : ∀ {kvs : List (Key × V)} {es : List (Str × Rat)} {x0 : Rat}, Paired (Ent R) kvs es → (es.map (·.1)).Nodup → (n, x0) ∈ es → ∀ {r : Addr}, R r (x0 + x) →
    Paired (Ent R) (kvs.map fun kv => if kv.1 = Sum.inr n then (kv.1, V.ref r) else kv) (addR es n x)
  | _, _, _, .nil, _, hn, _, _ => absurd hn List.not_mem_nil
  | kv :: kvs, e :: es, x0, .cons a b, nd, hn, r, hr => by
    have nd := List.nodup_cons.mp nd
    obtain ⟨t, h1, h2⟩ := a
    rcases List.mem_cons.mp hn with z | z
    · have hk : kv.1 = Sum.inr n := by rw [h1, ← z]
      have he : e.1 = n := by rw [← z]
      have hm : n ∉ es.map (·.1) := he ▸ nd.1
      rw [List.map_cons, if_pos hk, map_same (ent_miss b hm)]
      show Paired _ _ (if e.1 = n then (n, e.2 + x) :: es else e :: addR es n x)
      rw [if_pos he]
      exact .cons ⟨r, by rw [hk], by rw [← z]; exact hr⟩ b
    · have he : ¬ e.1 = n := fun y => nd.1 (List.mem_map.mpr ⟨(n, x0), z, y.symm⟩)
      have hk : ¬ kv.1 = Sum.inr n := by
        rw [h1]
        exact fun y => he (Sum.inr.inj y)
      rw [List.map_cons, if_neg hk]
      show Paired _ _ (if e.1 = n then (n, e.2 + x) :: es else e :: addR es n x)
      rw [if_neg he]
      exact .cons ⟨t, h1, h2⟩ (ent_map b nd.2 z hr)
theorem ent_put_old {x0 : Rat} (h : Paired (Ent R) kvs es) (nd : (es.map (·.1)).Nodup) (hn : (n, x0) ∈ es) {r : Addr} (hr : R r (x0 + x)) : Paired (Ent R) (putK kvs (Sum.inr n) (V.ref r)) (addR es n x) := by
  have hin : (kvs.any fun kv => decide (kv.1 = Sum.inr n)) = true := by
    obtain ⟨q, hq, _⟩ := ent_get h nd hn
    rw [valV_any, hq]
    rfl
  unfold putK
  rw [if_pos hin]
  exact ent_map h nd hn hr
end
/-- rows summed by their names -/
def sums (rs : List (Str × Rat)) : List (Str × Rat) := rs.foldl (fun es e => addR es e.1 e.2) []
theorem sums_snoc {rs : List (Str × Rat)} {e : Str × Rat} : sums (rs ++ [e]) = addR (sums rs) e.1 e.2 := by
  unfold sums
  rw [List.foldl_append]
  rfl
theorem sums_val' {n : Str} : ∀ {rs es : List (Str × Rat)}, val (rs.foldl (fun es e => addR es e.1 e.2) es) n = val es n + val rs n
  | [], es => (Rat.add_zero _).symm
  | e :: rs, es => by
    show val (rs.foldl _ (addR es e.1 e.2)) n = val es n + ((if e.1 = n then e.2 else 0) + val rs n)
    rw [sums_val', val_addR, Rat.add_assoc]
theorem sums_val {n : Str} {rs : List (Str × Rat)} : val (sums rs) n = val rs n := by
  unfold sums
  rw [sums_val']
  exact Rat.zero_add _
theorem sums_nd' : ∀ {rs es : List (Str × Rat)}, (es.map (·.1)).Nodup → ((rs.foldl (fun es e => addR es e.1 e.2) es).map (·.1)).Nodup
  | [], _, h => h
  | e :: rs, es, h => sums_nd' (rs := rs) (es := addR es e.1 e.2) (addR_names.2 h)
theorem sums_nd {rs : List (Str × Rat)} : ((sums rs).map (·.1)).Nodup := sums_nd' List.nodup_nil
theorem sums_len' : ∀ {rs es : List (Str × Rat)}, (rs.foldl (fun es e => addR es e.1 e.2) es).length ≤ es.length + rs.length
  | [], _ => Nat.le_refl _
  | e :: rs, es => by
    have h := sums_len' (rs := rs) (es := addR es e.1 e.2)
    have := addR_len (n := e.1) (x := e.2) (es := es)
    show (rs.foldl _ (addR es e.1 e.2)).length ≤ es.length + (rs.length + 1)
    omega
theorem sums_len {rs : List (Str × Rat)} : (sums rs).length ≤ rs.length := by
  have := sums_len' (rs := rs) (es := [])
  unfold sums
  simpa using this
theorem sums_sz {rs : List (Str × Rat)} {b : Nat} (h : ∀ e ∈ rs, Sz e.2 b) : ∀ e ∈ sums rs, Sz e.2 (1 + rs.length * (b + 1)) := fun e he => by
  rw [← val_mem (n := e.1) sums_nd he, sums_val]
  exact val_sz h
/-- the one that stands under a name, if it is no nought -/
def pick (es : List (Str × Rat)) (y : Str) : Option (Str × Rat) := if val es y = 0 then none else some (y, val es y)
theorem pick_canon {ys : List Str} {es : List (Str × Rat)} (h : sortedS ys = true) (nd : ys.Nodup) : Canon (ys.filterMap (pick es)) := Canon.of (sorted_pw h) nd _ fun n e he => by
  unfold pick at he
  split at he
  · cases he
  · cases he
    exact ⟨rfl, by assumption⟩
theorem pick_val {ys : List Str} {es : List (Str × Rat)} (nd : ys.Nodup) (hm : ∀ n, val es n ≠ 0 → n ∈ ys) (n : Str) : val (ys.filterMap (pick es)) n = val es n := by
  have key : ∀ {ys : List Str}, ys.Nodup → val (ys.filterMap (pick es)) n = if n ∈ ys then val es n else 0 := by
    intro ys nd
    induction ys with
    | nil => rfl
    | cons y ys ih =>
      have nd := List.nodup_cons.mp nd
      rw [List.filterMap_cons]
      unfold pick at ih ⊢
      by_cases h0 : val es y = 0
      · rw [if_pos h0]
        show val (List.filterMap _ ys) n = _
        rw [ih nd.2]
        by_cases e : n = y
        · rw [e, if_neg nd.1, if_pos List.mem_cons_self, h0]
        · have : n ∈ y :: ys ↔ n ∈ ys := by rw [List.mem_cons]; exact ⟨fun z => z.resolve_left e, .inr⟩
          simp only [this]
      · rw [if_neg h0]
        show (if y = n then val es y else 0) + val (List.filterMap _ ys) n = _
        rw [ih nd.2]
        by_cases e : y = n
        · rw [if_pos e, ← e, if_neg nd.1, if_pos List.mem_cons_self, Rat.add_zero]
        · have : n ∈ y :: ys ↔ n ∈ ys := by rw [List.mem_cons]; exact ⟨fun z => z.resolve_left fun w => e w.symm, .inr⟩
          rw [if_neg e, Rat.zero_add]
          simp only [this]
  rw [key nd]
  split
  · rfl
  · rename_i h
    exact (Classical.byContradiction fun z => h (hm n fun w => z w.symm))
end Own
namespace Own
open PySem PySem.Spec PyProof.Rows L2
/-! ### a Purse: p, its dict d, what it holds -/
def PurD (C CP : Addr) (H : Hp) (p d : Addr) (hs : List (Str × Rat)) : Prop := ∃ dx kvs, H p = some (.ins C dx [("_held", .ref d)]) ∧ H d = some (.dK kvs) ∧ Paired (Ent (PartR CP H)) kvs hs
theorem PurD.ext {C CP : Addr} {H H' : Hp} {p d : Addr} {hs : List (Str × Rat)} (h : PurD C CP H p d hs) (e : Ext H H') : PurD C CP H' p d hs := by
  obtain ⟨dx, kvs, h1, h2, h3⟩ := h
  exact ⟨dx, kvs, e _ _ h1, e _ _ h2, ent_mono h3 fun _ _ z => z.ext e⟩
theorem PurD.off {C CP : Addr} {H H' : Hp} {p d c : Addr} {hs : List (Str × Rat)} {ks : List (Key × V)} (h : PurD C CP H p d hs) (hd : d ≠ c) (hc : H c = some (.dK ks)) (e : Off c H H') : PurD C CP H' p d hs := by
  obtain ⟨dx, kvs, h1, h2, h3⟩ := h
  exact ⟨dx, kvs, e _ _ h1 (fun z => by rw [z, hc] at h1; cases h1), e _ _ h2 hd, ent_mono h3 fun _ _ z => z.off hc e⟩
theorem PurD.offL {C CP : Addr} {H H' : Hp} {p d c : Addr} {hs : List (Str × Rat)} {xs : List V} (h : PurD C CP H p d hs) (hc : H c = some (.lst xs)) (e : Off c H H') : PurD C CP H' p d hs := by
  obtain ⟨dx, kvs, h1, h2, h3⟩ := h
  exact ⟨dx, kvs, e _ _ h1 (fun z => by rw [z, hc] at h1; cases h1), e _ _ h2 (fun z => by rw [z, hc] at h2; cases h2), ent_mono h3 fun _ _ z => z.offL hc e⟩
theorem held_no {m : Str} {v : V} (h : ¬ m = "_held") : List.lookup m [((Str.ofString "_held" : Str), v)] = none := by
  rw [List.lookup_cons, show (m == Str.ofString "_held") = false from beq_eq_false_iff_ne.mpr h]
  rfl
theorem held_yes {v : V} : List.lookup (Str.ofString "_held") [((Str.ofString "_held" : Str), v)] = some v := by simp [List.lookup]
theorem catTK {X : Cx} {K : PySem.W.Frag} (h : X.K = K) : OpR X (binaryOp .Add) (rCatT K) := h ▸ op_catT
/-- a row's cell: name, top, low -/
def Row3 (H : Hp) (t : Addr) (e : Str × Rat) : Prop := H t = some (.tup [.str e.1, .int e.2.num, .int e.2.den])
def row3D (e : Str × Rat) : PyData := .tuple [.str e.1, .int e.2.num, .int e.2.den]
/-- a list of such rows -/
def Rows3 (H : Hp) (p : Addr) (es : List (Str × Rat)) : Prop := ∃ ts : List Addr, H p = some (.lst (ts.map V.ref)) ∧ Paired (Row3 H) ts es
theorem row3_ext {H H' : Hp} {ts : List Addr} {es : List (Str × Rat)} (h : Paired (Row3 H) ts es) (e : Ext H H') : Paired (Row3 H') ts es := pmono (fun _ _ z => e _ _ z) h
theorem row3_offL {d : Addr} {H H' : Hp} {ts : List Addr} {es : List (Str × Rat)} {xs : List V} (h : Paired (Row3 H) ts es) (hd : H d = some (.lst xs)) (e : Off d H H') : Paired (Row3 H') ts es := pmono (fun _ _ z => e _ _ z fun y => by
  rw [y, hd] at z
  cases z) h
theorem Rows3.ext {H H' : Hp} {p : Addr} {es : List (Str × Rat)} (h : Rows3 H p es) (e : Ext H H') : Rows3 H' p es := by
  obtain ⟨ts, h1, h2⟩ := h
  exact ⟨ts, e _ _ h1, row3_ext h2 e⟩
theorem row3_dp {K : PySem.W.Frag} {H : Hp} : ∀ {ts : List Addr} {es : List (Str × Rat)}, Paired (Row3 H) ts es → DpAll K H (ts.map V.ref) (es.map row3D)
  | _, _, .nil => .nil
  | _, _, .cons a b => .cons (.tup (ofT a) (.cons (.str _) (.cons (.int _) (.cons (.int _) .nil)))) (row3_dp b)
theorem Rows3.dp {K : PySem.W.Frag} {H : Hp} {p : Addr} {es : List (Str × Rat)} (h : Rows3 H p es) : Dp K H (.ref p) (.list (es.map row3D)) := by
  obtain ⟨ts, h1, h2⟩ := h
  exact .lst (ofL h1) (row3_dp h2)
theorem Mild.frac {x : Rat} (h : Sz x 1900) : Mild (.tuple [.int x.num, .int x.den]) 4000 1 := by
  refine (Mild.tuple (n := 1921) (k := 0) (m := 2) (fun d hd => ?_) (Nat.le_refl _)).mono (by decide) (Nat.le_refl _)
  rcases List.mem_cons.mp hd with e | e
  · rw [e]
    exact Mild.int (log2_of (Nat.lt_of_lt_of_le h.n (Nat.pow_le_pow_right (by decide) (by decide))))
  · rw [List.mem_singleton.mp e]
    exact Mild.int (log2_of (Nat.lt_of_lt_of_le h.d (Nat.pow_le_pow_right (by decide) (by decide))))
theorem Mild.row3 {e : Str × Rat} {n : Nat} (a : Small e.1 n) (hn : n ≤ 100) (h : Sz e.2 1900) : Mild (row3D e) 6000 1 := by
  refine (Mild.tuple (n := 1921) (k := 0) (m := 3) (fun d hd => ?_) (Nat.le_refl _)).mono (by decide) (Nat.le_refl _)
  rcases List.mem_cons.mp hd with e | e
  · rw [e]
    exact (Mild.str a).mono (by omega) (Nat.le_refl _)
  · rcases List.mem_cons.mp e with e | e
    · rw [e]
      exact Mild.int (log2_of (Nat.lt_of_lt_of_le h.n (Nat.pow_le_pow_right (by decide) (by decide))))
    · rw [List.mem_singleton.mp e]
      exact Mild.int (log2_of (Nat.lt_of_lt_of_le h.d (Nat.pow_le_pow_right (by decide) (by decide))))
theorem Mild.rows3 {es : List (Str × Rat)} (h : ∀ e ∈ es, (∃ n, Small e.1 n ∧ n ≤ 100) ∧ Sz e.2 1900) (hl : es.length ≤ 1000) : Mild (.list (es.map row3D)) 7000000 2 :=
  (Mild.list (n := 6000) (k := 1) (m := 1000) (fun d hd => by
    obtain ⟨e, he, rfl⟩ := List.mem_map.mp hd
    obtain ⟨⟨n, h1, h2⟩, h3⟩ := h e he
    exact Mild.row3 h1 h2 h3) (by rw [List.length_map]; exact hl)).mono (by decide) (Nat.le_refl _)
end Own
namespace Own
open PySem PySem.Spec PyProof.Rows L2
theorem pcomp {α β γ : Type} {F : α → β → Prop} {G : β → γ → Prop} {R : α → γ → Prop} (h : ∀ x y z, F x y → G y z → R x z) : ∀ {xs : List α} {ys : List β} {zs : List γ}, Paired F xs ys → Paired G ys zs → Paired R xs zs
  | _, _, _, .nil, .nil => .nil
  | _, _, _, .cons a b, .cons c d => .cons (h _ _ _ a c) (pcomp h b d)
theorem papp {α β : Type} {F : α → β → Prop} : ∀ {xs xs' : List α} {ys ys' : List β}, Paired F xs ys → Paired F xs' ys' → Paired F (xs ++ xs') (ys ++ ys')
  | _, _, _, _, .nil, h => h
  | _, _, _, _, .cons a b, h => .cons a (papp b h)
/-- each sum times x -/
def timesL (x : Rat) (es : List (Str × Rat)) : List (Str × Rat) := es.map fun e => (e.1, e.2 * x)
theorem val_times {x : Rat} {n : Str} : ∀ {es : List (Str × Rat)}, val (timesL x es) n = val es n * x
  | [] => (Rat.zero_mul x).symm
  | e :: es => by
    show (if e.1 = n then e.2 * x else 0) + val (timesL x es) n = ((if e.1 = n then e.2 else 0) + val es n) * x
    rw [val_times, Rat.add_mul]
    split
    · rfl
    · rw [Rat.zero_mul]
/-- equal lists of rising names: as many, and each sum the same -/
theorem canon_all {hs gs : List (Str × Rat)} (h : Canon hs) (g : Canon gs) : (decide (hs.length = gs.length) && hs.all fun x => decide (val gs x.1 = x.2)) = decide (hs = gs) := by
  by_cases e : hs = gs
  · subst e
    rw [decide_eq_true rfl, decide_eq_true rfl, Bool.true_and, List.all_eq_true]
    exact fun x hx => decide_eq_true (val_mem (n := x.1) h.nd hx)
  · rw [decide_eq_false e, Bool.and_eq_false_iff]
    refine Classical.byContradiction fun z => e (h.eq g fun n => ?_)
    rw [not_or, Bool.not_eq_false, Bool.not_eq_false] at z
    have hl := of_decide_eq_true z.1
    have ha := List.all_eq_true.mp z.2
    have hv : ∀ x ∈ hs, val gs x.1 = x.2 := fun x hx => of_decide_eq_true (ha x hx)
    by_cases hn : n ∈ hs.map (·.1)
    · obtain ⟨x, hx, rfl⟩ := List.mem_map.mp hn
      rw [val_mem (n := x.1) h.nd hx, hv x hx]
    · rw [val_miss hn]
      refine (Classical.byContradiction fun y => ?_ : (0 : Rat) = val gs n)
      have hg : n ∈ gs.map (·.1) := g.mem.mpr fun w => y w.symm
      have hsub : n :: hs.map (·.1) ⊆ gs.map (·.1) := fun m hm => by
        rcases List.mem_cons.mp hm with w | w
        · exact w ▸ hg
        · obtain ⟨x, hx, rfl⟩ := List.mem_map.mp w
          exact g.mem.mpr fun u => h.nz x hx (by rw [← hv x hx, u])
      have := nodup_le (List.nodup_cons.mpr ⟨hn, h.nd⟩) hsub
      rw [List.length_cons, List.length_map, List.length_map] at this
      omega
/-- what is poured into a bag -/
def pour (x : Rat) (es fs : List (Str × Rat)) : List (Str × Rat) := fs.foldl (fun es e => addR es e.1 (e.2 * x)) es
theorem pour_snoc {x : Rat} {es fs : List (Str × Rat)} {e : Str × Rat} : pour x es (fs ++ [e]) = addR (pour x es fs) e.1 (e.2 * x) := by
  unfold pour
  rw [List.foldl_append]
  rfl
theorem pour_val {x : Rat} {n : Str} : ∀ {fs es : List (Str × Rat)}, val (pour x es fs) n = val es n + val fs n * x
  | [], es => by
    show val es n = val es n + 0 * x
    rw [Rat.zero_mul, Rat.add_zero]
  | e :: fs, es => by
    show val (pour x (addR es e.1 (e.2 * x)) fs) n = val es n + ((if e.1 = n then e.2 else 0) + val fs n) * x
    rw [pour_val, val_addR, Rat.add_mul, Rat.add_assoc]
    split
    · rfl
    · rw [Rat.zero_mul]
theorem pour_nd {x : Rat} : ∀ {fs es : List (Str × Rat)}, (es.map (·.1)).Nodup → ((pour x es fs).map (·.1)).Nodup
  | [], _, h => h
  | e :: fs, es, h => pour_nd (fs := fs) (es := addR es e.1 (e.2 * x)) (addR_names.2 h)
theorem pour_len {x : Rat} : ∀ {fs es : List (Str × Rat)}, (pour x es fs).length ≤ es.length + fs.length
  | [], _ => Nat.le_refl _
  | e :: fs, es => by
    have h := pour_len (x := x) (fs := fs) (es := addR es e.1 (e.2 * x))
    have := addR_len (n := e.1) (x := e.2 * x) (es := es)
    show (pour x (addR es e.1 (e.2 * x)) fs).length ≤ es.length + (fs.length + 1)
    omega
theorem addR_mem {n : Str} {x : Rat} {e : Str × Rat} : ∀ {es : List (Str × Rat)}, e ∈ addR es n x → e ∈ es ∨ e = (n, x) ∨ ∃ y, (n, y) ∈ es ∧ e = (n, y + x)
  | [], h => .inr (.inl (List.mem_singleton.mp h))
  | f :: es, h => by
    have h : e ∈ (if f.1 = n then (n, f.2 + x) :: es else f :: addR es n x) := h
    split at h
    · rename_i hf
      rcases List.mem_cons.mp h with h | h
      · exact .inr (.inr ⟨f.2, hf ▸ List.mem_cons_self, h⟩)
      · exact .inl (List.mem_cons_of_mem _ h)
    · rcases List.mem_cons.mp h with h | h
      · exact .inl (h ▸ List.mem_cons_self)
      · rcases addR_mem h with h | h | ⟨y, h, e2⟩
        · exact .inl (List.mem_cons_of_mem _ h)
        · exact .inr (.inl h)
        · exact .inr (.inr ⟨y, List.mem_cons_of_mem _ h, e2⟩)
/-- a law's bag: names of the list, once each, sums of few digits -/
structure Bg (es : List (Str × Rat)) (zs : List Str) (m b : Nat) : Prop where
  nd : (es.map (·.1)).Nodup
  ln : es.length ≤ m
  nm : ∀ e ∈ es, e.1 ∈ zs
  sz : ∀ e ∈ es, Sz e.2 b
theorem Bg.nil {zs : List Str} : Bg [] zs 0 0 := ⟨List.nodup_nil, Nat.le_refl _, fun _ h => absurd h List.not_mem_nil, fun _ h => absurd h List.not_mem_nil⟩
theorem Bg.mono {es : List (Str × Rat)} {zs : List Str} {m b m' b' : Nat} (h : Bg es zs m b) (hm : m ≤ m') (hb : b ≤ b') : Bg es zs m' b' := ⟨h.nd, Nat.le_trans h.ln hm, h.nm, fun e he => (h.sz e he).mono hb⟩
theorem Bg.add {es : List (Str × Rat)} {zs : List Str} {m b c : Nat} {n : Str} {x : Rat} (h : Bg es zs m b) (hn : n ∈ zs) (hx : Sz x c) : Bg (addR es n x) zs (m + 1) (b + c + 1) := by
  refine ⟨addR_names.2 h.nd, ?_, fun e he => ?_, fun e he => ?_⟩
  · have := addR_len (n := n) (x := x) (es := es)
    have := h.ln
    omega
  · rcases addR_mem he with h2 | h2 | ⟨y, _, e2⟩
    · exact h.nm e h2
    · rw [h2]
      exact hn
    · rw [e2]
      exact hn
  · rcases addR_mem he with h2 | h2 | ⟨y, h2, e2⟩
    · exact (h.sz e h2).mono (by omega)
    · rw [h2]
      exact hx.mono (by omega)
    · rw [e2]
      exact ((h.sz _ h2).add hx).mono (by omega)
end Own
namespace Own
open PySem PySem.Spec PyProof.Rows L2
theorem pour_nm {x : Rat} {zs : List Str} : ∀ {fs es : List (Str × Rat)}, (∀ e ∈ es, e.1 ∈ zs) → (∀ e ∈ fs, e.1 ∈ zs) → ∀ e ∈ pour x es fs, e.1 ∈ zs
  | [], _, h1, _, e, he => h1 e he
  | f :: fs, es, h1, h2, e, he => pour_nm (fs := fs) (es := addR es f.1 (f.2 * x)) (fun y hy => by
      rcases addR_mem hy with h | h | ⟨_, _, e2⟩
      · exact h1 y h
      · rw [h]
        exact h2 f List.mem_cons_self
      · rw [e2]
        exact h2 f List.mem_cons_self) (fun y hy => h2 y (List.mem_cons_of_mem _ hy)) e he
end Own
namespace Own
open PySem PySem.Spec PyProof.Rows L2
theorem lenK {X : Cx} {K : PySem.W.Frag} (h : X.K = K) : CallR X (.builtin "len") (fun xs H Q => ∃ p ys, xs = [.ref p] ∧ (SqL K H p ys ∨ SqT K H p ys) ∧ Q (.int ys.length) H) := h ▸ call_len_seq
end Own
namespace Own
open PySem PySem.Spec PyProof.Rows L2
theorem ptake {α β : Type} {F : α → β → Prop} : ∀ {xs : List α} {ys : List β}, Paired F xs ys → ∀ n, Paired F (xs.take n) (ys.take n)
  | _, _, .nil, n => by simpa using Paired.nil
  | _, _, .cons _ _, 0 => .nil
  | _, _, .cons a b, n + 1 => .cons a (ptake b n)
end Own

set_option Elab.async false
set_option maxRecDepth 100000
set_option maxHeartbeats 4000000
set_option linter.all false
/-! dicts held against one another, their values by a def of the text -/
namespace Own
open PySem PySem.Spec PyProof.Rows L2
section
variable {prog : Program} {w : World} {κ : Type} [DecidableEq κ] {knd : KeyKind prog w κ} {A : Around} {E : Value → Shared → Prop} {s : Shared}
theorem refs_bool {p q : Addr} {Q : Bool → Shared → Prop} (hne : p ≠ q) (h : wpAny (model prog w) A (richCompare .Eq (.ref p) (.ref q)) (fun v t => ∃ e, v = .bool e ∧ Q e t) E s) : wpAny (model prog w) A (eqBool (.ref p) (.ref q)) Q E s := by
  unfold eqBool
  refine wpAny_holding (wpAny_ite_split (fun same => absurd (Value.ref.inj (eq_of_beq same)) hne) fun _ => wpAny_bind (wpAny_mono h (fun v t hv => ?_) fun _ _ z => z))
  obtain ⟨e, rfl, q⟩ := hv
  exact wpAny_truthy_bool q
theorem refs_same {p : Addr} {Q : Bool → Shared → Prop} (h : Q true s) : wpAny (model prog w) A (eqBool (.ref p) (.ref p)) Q E s := by
  unfold eqBool
  refine wpAny_holding (wpAny_ite_split (fun _ => ?_) fun z => absurd (beq_self_eq_true (Value.ref p)) z)
  exact wpAny_bind (wpAny_rule (wpAny_pure h))
/-- one pair after the other; the heap may grow on the way -/
theorem pairs_run {nm : String} {a b : Addr} {o1 o2 : Obj} {es fs : Array DictEntry} {p1 p2 : Nat} {ka kb : List (κ × Value)} {J : List (κ × Value) → Shared → Prop} {Q : Bool → Shared → Prop} (sa : (a == sysModules) = false) (sb : (b == sysModules) = false)
    (c1 : s.heap.get? a = some o1) (d1 : o1.data = .dict es p1) (k1 : KeysOf knd es) (r1 : Pairs knd es.toList ka) (c2 : s.heap.get? b = some o2) (d2 : o2.data = .dict fs p2) (k2 : KeysOf knd fs) (r2 : Pairs knd fs.toList kb)
    (kept : ∀ r t, J r t → t.heap.get? a = some o1 ∧ t.heap.get? b = some o2) (differ : ka.length ≠ kb.length → Q false s) (start : ka.length = kb.length → J ka s) (stop : ∀ t, J [] t → Q true t)
    (lack : ∀ k v r t, J ((k, v) :: r) t → valueAt kb k = none → Q false t)
    (turn : ∀ k v r t y, J ((k, v) :: r) t → valueAt kb k = some y → wpAny (model prog w) A (eqBool v y) (fun e t' => if e = true then J r t' else Q false t') E t) : wpAny (model prog w) A (Builtin.Dict.samePairs nm a b) Q E s := by
  have n1 : ka.length = es.size := by rw [← r1.length, Array.length_toList]
  have n2 : kb.length = fs.size := by rw [← r2.length, Array.length_toList]
  unfold Builtin.Dict.samePairs Builtin.Dict.showsAll
  rw [sa, sb]
  simp only [if_neg Bool.false_ne_true, pure_bind]
  refine wpAny_bind (wpAny_dictEntries c1 d1 ?_)
  refine wpAny_bind (wpAny_dictEntries c2 d2 ?_)
  by_cases hn : es.size = fs.size
  · rw [if_neg (by simp [hn])]
    refine wpAny_bind (wpAny_dictEpoch c1 d1 (wpAny_bind ?_))
    rw [Std.Legacy.Range.forIn_eq_forIn_range']
    simp only [Std.Legacy.Range.size, Nat.add_sub_cancel, Nat.div_one, Nat.sub_zero]
    refine wpAny_forIn_list _ (fun left acc t => acc = (none, ()) ∧ ∃ j, j ≤ es.size ∧ left = List.range' j (es.size - j) ∧ J (ka.drop j) t) _ ?_ ?_ _ _ ⟨rfl, 0, Nat.zero_le _, by simp, start (by omega)⟩
    · rintro x left acc t ⟨rfl, j, hj, hl, hJ⟩
      have jl : j < es.size := Nat.lt_of_le_of_ne hj fun z => by
        rw [z, Nat.sub_self] at hl
        cases hl
      rw [show es.size - j = (es.size - (j + 1)) + 1 by omega, List.range'_succ] at hl
      obtain ⟨rfl, hl⟩ := List.cons.inj hl
      obtain ⟨g1, g2⟩ := kept _ _ hJ
      refine wpAny_bind (wpAny_dictEntries g1 d1 ?_)
      rw [Array.getElem?_eq_getElem jl]
      have jk : x < ka.length := by omega
      obtain ⟨⟨k, v⟩, ekv⟩ : ∃ kv, ka[x] = kv := ⟨_, rfl⟩
      rw [List.drop_eq_getElem_cons jk, ekv] at hJ
      obtain ⟨isk, isv⟩ := r1.get? (i := x) (e := es[x]) (k := k) (v := v) (by rw [Array.getElem?_toList, Array.getElem?_eq_getElem jl]) (by rw [List.getElem?_eq_getElem jk, ekv])
      obtain ⟨k', isk', hh⟩ := k1 es[x] (Array.getElem_mem jl)
      rw [knd.inj _ _ _ isk' isk] at hh
      show wpAny _ _ (holding [es[x].key, es[x].val] _ >>= _) _ _ _
      rw [hh]
      have look : findBy knd.is fs k = valueAt kb k := by
        rw [← r2.find k]
        obtain ⟨l⟩ := fs
        simp [findBy]
      refine wpAny_bind (wpAny_holding (wpAny_bind (wpAny_dictFind_of isk g2 d2 k2 ?_)))
      cases hf : fs.findIdx? fun e => knd.is k e.key with
      | none =>
        have hn : valueAt kb k = none := by rw [← look, findBy_of_findIdx?, hf]
        refine wpAny_pure ?_
        show wpAny _ _ (if (!false) = true then _ else _) _ _ _
        rw [if_pos (Bool.not_false)]
        exact wpAny_pure (wpAny_pure (lack k v _ t hJ hn))
      | some i =>
        obtain ⟨il, _, _⟩ := Array.findIdx?_eq_some_iff_getElem.mp hf
        have hv : valueAt kb k = some fs[i].val := by
          rw [← look, findBy_of_findIdx?, hf]
          simp [Array.getElem?_eq_getElem il]
        refine wpAny_bind (wpAny_dictEntries g2 d2 ?_)
        rw [Array.getElem?_eq_getElem il]
        refine wpAny_holding ?_
        rw [isv]
        refine wpAny_mono (turn k v _ t _ hJ hv) (fun e t' ht => ?_) fun _ _ z => z
        cases e with
        | false =>
          show wpAny _ _ (if (!false) = true then _ else _) _ _ _
          rw [if_pos (Bool.not_false)]
          exact wpAny_pure (wpAny_pure ht)
        | true =>
          have ht : J (ka.drop (x + 1)) t' := ht
          show wpAny _ _ (if (!true) = true then _ else _) _ _ _
          rw [if_neg (by decide)]
          refine wpAny_bind (wpAny_dictEpoch (kept _ _ ht).1 d1 ?_)
          rw [if_neg (by simp)]
          exact wpAny_pure ⟨rfl, x + 1, jl, hl, ht⟩
    · rintro acc t ⟨rfl, j, hj, hl, hJ⟩
      have je : j = es.size := Nat.le_antisymm hj (Nat.le_of_not_lt fun z => by
        rw [show es.size - j = (es.size - (j + 1)) + 1 by omega, List.range'_succ] at hl
        cases hl)
      rw [je, ← n1, List.drop_length] at hJ
      exact wpAny_pure (stop t hJ)
  · rw [if_pos (by simpa using hn)]
    exact wpAny_bind (wpAny_rule (wpAny_pure (differ (by omega))))
theorem dicts_run {a b : Addr} {o1 o2 : Obj} {es fs : Array DictEntry} {p1 p2 : Nat} {ka kb : List (κ × Value)} {J : List (κ × Value) → Shared → Prop} {Q : Value → Shared → Prop} (hu : A.units < cLine) (sa : (a == sysModules) = false) (sb : (b == sysModules) = false)
    (c1 : s.heap.get? a = some o1) (x1 : o1.ExactDict) (d1 : o1.data = .dict es p1) (k1 : KeysOf knd es) (r1 : Pairs knd es.toList ka) (c2 : s.heap.get? b = some o2) (x2 : o2.ExactDict) (d2 : o2.data = .dict fs p2) (k2 : KeysOf knd fs) (r2 : Pairs knd fs.toList kb)
    (kept : ∀ r t, J r t → t.heap.get? a = some o1 ∧ t.heap.get? b = some o2) (differ : ka.length ≠ kb.length → Q (.bool false) s) (start : ka.length = kb.length → J ka s) (stop : ∀ t, J [] t → Q (.bool true) t)
    (lack : ∀ k v r t, J ((k, v) :: r) t → valueAt kb k = none → Q (.bool false) t)
    (turn : ∀ k v r t y, J ((k, v) :: r) t → valueAt kb k = some y → wpAny (model prog w) A.in1 (eqBool v y) (fun e t' => if e = true then J r t' else Q (.bool false) t') E t) :
    wpAny (model prog w) A (richCompare .Eq (.ref a) (.ref b)) Q E s := by
  have t1 : s.TypeIs (.ref a) "dict" := ⟨_, c1, x1.1⟩
  have t2 : s.TypeIs (.ref b) "dict" := ⟨_, c2, x2.1⟩
  refine wpAny_richCompare_same_room (op := .Eq) t1 t2 PySem.F.slot_dict_eq (wpAny_call_entry PySem.F.slot_dict_eq t1 PySem.F.entry_dict_eq ?_ (PySem.F.args_dict_eq_2 _ _)) hu
  show wpAny _ _ (Builtin.Dict.dictSlotArgs "__eq__" ⟨[.ref a, .ref b], []⟩ >>= _) _ _ s
  unfold Builtin.Dict.dictSlotArgs
  refine wpAny_bind (wpAny_bind (wpAny_notOrdered_dict t1 (wpAny_pure (wpAny_bind (wpAny_isInstance (T := "dict") t2 PySem.F.sub_dict_dict ?_)))))
  rw [if_neg (by decide)]
  refine wpAny_bind (m := Builtin.Dict.addrOf (.ref a)) (wpAny_pure (wpAny_bind (m := Builtin.Dict.addrOf (.ref b)) (wpAny_pure (wpAny_bind ?_))))
  refine wpAny_mono (pairs_run (J := J) (Q := fun e t => Q (.bool e) t) sa sb c1 d1 k1 r1 c2 d2 k2 r2 kept differ start stop lack turn) (fun e t h => ?_) fun _ _ z => z
  refine wpAny_pure ⟨_, rfl, (fun z => nomatch z), ?_⟩
  cases e <;> exact h
end
/-- two values: one thing, or held by the class's own def, which leaves the heap as it is -/
def ValEq (K : PySem.W.Frag) (C : Addr) (sp : Sp) (E : XK) (H : Hp) (v y : V) (e : Bool) : Prop := ∃ p q : Addr, v = .ref p ∧ y = .ref q ∧ ((p = q ∧ e = true) ∨ (p ≠ q ∧ ∃ dx fs t, H p = some (.ins C dx fs) ∧ TyX K H (.ref q) t ∧ PySem.W.notFirst K C t = true ∧ sp [.ref p, .ref q] H (fun z H' => z = .bl e ∧ H' = H) E))
inductive Held (K : PySem.W.Frag) (C : Addr) (sp : Sp) (E : XK) (H : Hp) (kb : List (Key × V)) : List (Key × V) → Bool → Prop
  | nil : Held K C sp E H kb [] true
  | miss {k : Key} {v : V} {r : List (Key × V)} : valV kb k = none → Held K C sp E H kb ((k, v) :: r) false
  | no {k : Key} {v y : V} {r : List (Key × V)} : valV kb k = some y → ValEq K C sp E H v y false → Held K C sp E H kb ((k, v) :: r) false
  | yes {k : Key} {v y : V} {r : List (Key × V)} {e : Bool} : valV kb k = some y → ValEq K C sp E H v y true → Held K C sp E H kb r e → Held K C sp E H kb ((k, v) :: r) e
/-- d == e, both of them locked, their values by a def of the text -/
def rEqDO (K : PySem.W.Frag) (C : Addr) (sp : Sp) (E : XK) : R2 := fun x y H Q => ∃ (a b : Addr) (oa ob : Obj) (ka kb : List (Key × V)) (e : Bool), x = .ref a ∧ y = .ref b ∧ H a = some (.frz oa (.dK ka)) ∧ H b = some (.frz ob (.dK kb)) ∧ (ka.length = kb.length → Held K C sp E H kb ka e) ∧ Q (.bl (decide (ka.length = kb.length) && e)) H
section
variable {X : Cx}
theorem op_eq_dictO {CX : CXT} {k : Nat} {C f : Addr} {fd : FuncData} {ps : List Str} {sp : Sp} {E : XK} (F : FnOk X.prog X.w X.K X.mg X.base CX k f fd ps sp) (hr : Room (k + 1) X.A) (hb : Binds X.K fd ps []) (hx : Passes CX X E)
    (hs : PySem.W.findIn X.K (.ref C) "__eq__" = some (some (.ref f))) (hf : PySem.W.isFn X.K (.ref f) = true) : OpR X (compareOp .Eq) (rEqDO X.K C sp E) := by
  intro pins s σ H x y v u Q I rx ry h
  obtain ⟨a, b, oa, ob, ka, kb, e, rfl, rfl, ha, hb2, hheld, q⟩ := h
  obtain rfl : v = Value.ref a := rx
  obtain rfl : u = Value.ref b := ry
  obtain ⟨sa, ca, xa, es, pa, va, da, za, ra, ma⟩ := I.frzK ha
  obtain ⟨sb, cb, xb, fs, pb, vb, db, zb, rb, mb⟩ := I.frzK hb2
  obtain ⟨o1, es1, g1, _, f1, ka1, pa1, _⟩ := ma
  obtain rfl : oa = o1 := Option.some.inj (ca.symm.trans g1)
  obtain ⟨rfl, _⟩ := Data.dict.inj (da.symm.trans f1)
  obtain ⟨o2, es2, g2, _, f2, kb2, pb2, _⟩ := mb
  obtain rfl : ob = o2 := Option.some.inj (cb.symm.trans g2)
  obtain ⟨rfl, _⟩ := Data.dict.inj (db.symm.trans f2)
  have hl : ka.length = kb.length ↔ va.length = vb.length := by rw [ra.length, rb.length]
  have ans : ∀ {t : Shared} {z : Bool}, L2.Inv X pins σ H t → (decide (ka.length = kb.length) && e) = z → EP X pins σ Q (.bool z) t := fun {t z} I' hz => ⟨.bl z, H, I', rfl, hz ▸ q⟩
  refine dicts_run (knd := mixKind X.prog X.w) (J := fun r t => ka.length = kb.length ∧ L2.Inv X pins σ H t ∧ ∃ rv, KV rv r ∧ Held X.K C sp E H kb rv e) hr.units0 sa sb ca xa da ka1 pa1 cb xb db kb2 pb2 ?_ ?_ ?_ ?_ ?_ ?_
  · rintro r t ⟨_, I', _⟩
    exact ⟨(I'.frzK ha).2.1, (I'.frzK hb2).2.1⟩
  · intro hn
    exact ans I (by rw [decide_eq_false (fun z => hn (hl.mp z))]; rfl)
  · intro hn
    exact ⟨hl.mpr hn, I, ka, ra, hheld (hl.mpr hn)⟩
  · rintro t ⟨hn, I', rv, hrv, hh⟩
    cases hrv
    cases hh
    exact ans I' (by rw [decide_eq_true hn]; rfl)
  · rintro k v r t ⟨hn, I', rv, hrv, hh⟩ hnone
    cases hrv with
    | @cons p _ ps _ hp hps =>
      obtain ⟨k1, v1⟩ := p
      obtain ⟨ek, rv1⟩ := hp
      obtain rfl : k1 = k := ek
      have hrel := rb.val k1
      rw [hnone] at hrel
      have hno : valV kb k1 = none := by
        cases z : valV kb k1 with
        | none => rfl
        | some y => rw [z] at hrel; exact hrel.elim
      cases hh with
      | miss _ => exact ans I' (by rw [Bool.and_false])
      | no hy _ => rw [hno] at hy; cases hy
      | yes hy _ _ => rw [hno] at hy; cases hy
  · rintro k v r t y ⟨hn, I', rv, hrv, hh⟩ hy
    cases hrv with
    | @cons p _ ps _ hp hps =>
      obtain ⟨k1, v1⟩ := p
      obtain ⟨ek, rv1⟩ := hp
      obtain rfl : k1 = k := ek
      have hrel := rb.val k1
      rw [hy] at hrel
      obtain ⟨y1, hy1, ry1⟩ : ∃ y1, valV kb k1 = some y1 ∧ RelV y1 y := by
        cases z : valV kb k1 with
        | none => rw [z] at hrel; exact hrel.elim
        | some y1 => rw [z] at hrel; exact ⟨y1, rfl, hrel⟩
      have ask : ∀ {z : Bool} {R : Bool → Shared → Prop}, ValEq X.K C sp E H v1 y1 z → R z t → (∀ t', L2.Inv X pins σ H t' → R z t') → wpAny (model X.prog X.w) X.A.in1 (eqBool v y) R X.xe t := by
        rintro z R ⟨p, q, rfl, rfl, hpq⟩ hR hR2
        obtain rfl : v = Value.ref p := rv1
        obtain rfl : y = Value.ref q := ry1
        rcases hpq with ⟨rfl, rfl⟩ | ⟨hne, dx, flds, ty, hp, hty, hnf, hsp⟩
        · exact refs_same hR
        · refine refs_bool hne ?_
          obtain ⟨mA, J, _⟩ := ins_get I'.hok hp
          obtain ⟨od, J, _⟩ := J.look
          obtain ⟨m, hF⟩ := I'.fr
          refine PySem.W.cmp_K (op := .Eq) hr.in1.units0 hF I'.ok.mod.kin J (typeOf_ty I' (show RelV (V.ref q) (Value.ref q) from rfl) hty) hnf hs hf ?_
          refine run_sub (A := X.A.in1) (vs := [V.ref p, V.ref q]) F ⟨hr.in1, rfl⟩ hb hx I' (.cons (show RelV (V.ref p) (Value.ref p) from rfl) (.cons (show RelV (V.ref q) (Value.ref q) from rfl) .nil)) hsp fun v2 u2 H2 s2 I2 r2 q2 => ?_
          obtain ⟨rfl, rfl⟩ := q2
          obtain rfl : u2 = Value.bool z := r2
          exact ⟨z, rfl, hR2 _ I2⟩
      cases hh with
      | miss hno => rw [hno] at hy1; cases hy1
      | no hy2 hv =>
        rw [hy2] at hy1
        obtain rfl := Option.some.inj hy1
        exact ask hv (ans I' (by rw [Bool.and_false])) fun t' I2 => ans I2 (by rw [Bool.and_false])
      | yes hy2 hv hr2 =>
        rw [hy2] at hy1
        obtain rfl := Option.some.inj hy1
        exact ask hv ⟨hn, I', ps, hps, hr2⟩ fun t' I2 => ⟨hn, I2, ps, hps, hr2⟩
end
end Own

set_option Elab.async false
set_option linter.all false
set_option maxRecDepth 100000
set_option maxHeartbeats 2000000
/-! f-strings and len of own instances -/
namespace Own
open PySem PySem.Spec PyProof.Rows L2
section
variable {X : Cx}
/-- {o}: the class's own __repr__ -/
def tFmtO (C : Addr) (sp : Sp) (E : XK) (te : TE) : TE := fun σ H Q => te σ H fun x H1 => ∃ a dx fs, x = .ref a ∧ H1 a = some (.ins C dx fs) ∧ sp [.ref a] H1 (fun v H' => (∃ y, v = .str y) ∧ Q v H') E
theorem pe_fmtO {CX : CXT} {k : Nat} {C f : Addr} {fd : FuncData} {ps : List Str} {sp : Sp} {E : XK} (F : FnOk X.prog X.w X.K X.mg X.base CX k f fd ps sp) (hr : Room (k + 2) X.A) (hb : Binds X.K fd ps []) (hx : Passes CX X E)
    (hs : PySem.W.findIn X.K (.ref C) "__repr__" = some (some (.ref f))) (hf : PySem.W.isFn X.K (.ref f) = true)
    (h1 : PySem.W.findIn X.K (.ref C) "__format__" = some (some (.builtin "object.__format__"))) (h2 : PySem.W.findIn X.K (.ref C) "__str__" = some (some (.builtin "object.__str__"))) (h3 : PySem.W.mroIn X.K C (.type "object") = some true)
    {e : Expr} {te : TE} {pos : Pos} (he : PE X e te) : PE X (.FormattedValue e (-1) none pos) (tFmtO C sp E te) := by
  refine ⟨fun pins s σ H Q I h => ?_⟩
  refine wpAny_FormattedValue_plain (thn (he.run pins s σ H _ I h) fun v s1 hv => ?_)
  obtain ⟨x, H1, I1, r1, a, dx, fs, rfl, ha, h⟩ := hv
  obtain rfl : v = Value.ref a := r1
  obtain ⟨mA, J, _⟩ := ins_get I1.hok ha
  obtain ⟨od, J, _⟩ := J.look
  have hr1 : Room (k + 1) X.A.in1 := hr.in1
  refine PySem.W.kfo_fieldR hr.in1.units0 hr1.in1.units0 I1.kIn J h1 h3 h2 hs hf ?_
  refine run_sub (A := X.A.in1.in1) (vs := [V.ref a]) F ⟨hr1.in1, rfl⟩ hb hx (I1.tok _) (.cons (show RelV (V.ref a) (Value.ref a) from rfl) .nil) h fun v u H' s' I' rv q => ?_
  obtain ⟨⟨y, rfl⟩, q⟩ := q
  obtain ⟨t, rfl⟩ := rv
  exact ⟨.str y, H', I', ⟨t, rfl⟩, q⟩
/-- len(o): the class's own __len__ -/
def rLenI (C : Addr) (sp : Sp) (E : XK) : List V → Hp → VK → Prop := fun vs H Q =>
  ∃ a dx fs, vs = [V.ref a] ∧ H a = some (.ins C dx fs) ∧ sp [.ref a] H (fun v H' => ∃ i : Int, v = .int i ∧ 0 ≤ i ∧ i < 2 ^ 63 ∧ Q (.int i) H') E
theorem call_len_own {CX : CXT} {k : Nat} {C f : Addr} {fd : FuncData} {ps : List Str} {sp : Sp} {E : XK} (F : FnOk X.prog X.w X.K X.mg X.base CX k f fd ps sp) (hr : Room (k + 1) X.A) (hb : Binds X.K fd ps []) (hx : Passes CX X E)
    (hs : PySem.W.findIn X.K (.ref C) "__len__" = some (some (.ref f))) (hf : PySem.W.isFn X.K (.ref f) = true) : CallR X (.builtin "len") (rLenI C sp E) := by
  intro pins s σ H xs us Q I r h
  obtain ⟨a, dx, fs, rfl, ha, h⟩ := h
  obtain ⟨u, rfl, ru⟩ := vals1 r
  obtain rfl : u = Value.ref a := ru
  obtain ⟨mA, J, _⟩ := ins_get I.hok ha
  obtain ⟨od, J, _⟩ := J.look
  obtain ⟨m, hF⟩ := I.fr
  refine PySem.W.len_K hF I.ok.mod.kin J hs hf ?_
  refine run_sub (A := X.A.in1) (vs := [V.ref a]) F ⟨hr.in1, rfl⟩ hb hx I (.cons (show RelV (V.ref a) (Value.ref a) from rfl) .nil) h fun v u H' s' I' rv q => ?_
  obtain ⟨i, rfl, h0, h1, q⟩ := q
  obtain ⟨t, rfl⟩ := rv
  exact ⟨⟨h0, h1⟩, .int i, H', I'.tok _, ⟨_, rfl⟩, q⟩
end
end Own
namespace Own
open PySem PySem.Spec PyProof.Rows L2
section
variable {X : Cx}
/-- a list != an empty one -/
def rNeNil (K : PySem.W.Frag) : R2 := fun x y H Q => ∃ a b xs, x = .ref a ∧ y = .ref b ∧ SqL K H a xs ∧ SqL K H b [] ∧ Q (.bl (!xs.isEmpty)) H
theorem op_ne_nil (hu : X.A.units < cLine) : OpR X (compareOp .NotEq) (rNeNil X.K) := by
  intro pins s σ H x y v u Q I rx ry h
  obtain ⟨a, b, xs, rfl, rfl, ha, hb, q⟩ := h
  obtain rfl : v = Value.ref a := rx
  obtain rfl : u = Value.ref b := ry
  obtain ⟨its, rv, ⟨o, n, ho, hc, _, hd⟩, _⟩ := I.list ha
  obtain ⟨its2, rv2, ⟨o2, n2, ho2, hc2, _, hd2⟩, _⟩ := I.list hb
  cases rv2
  show wpAny _ _ (richCompare .NotEq (.ref a) (.ref b)) _ _ _
  cases xs with
  | nil =>
    cases rv
    exact PySem.SeqAt.RcNeAt.lists (e := fun _ => true) ⟨o, ho, hc, n, hd⟩ ⟨o2, ho2, hc2, n2, hd2⟩ rfl hu (fun j h1 => absurd h1 (Nat.not_lt_zero _)) X.prog X.w X.xe _ ⟨.bl _, H, I, rfl, q⟩
  | cons x xs =>
    cases rv
    exact PySem.SeqAt.RcNeAt.lists_lengths ⟨o, ho, hc, n, hd⟩ ⟨o2, ho2, hc2, n2, hd2⟩ rfl hu X.prog X.w X.xe _ ⟨.bl _, H, I, rfl, q⟩
theorem val_rev {n : Str} : ∀ {es : List (Str × Rat)}, val es.reverse n = val es n
  | [] => rfl
  | e :: es => by
    rw [List.reverse_cons, val_append, val_rev]
    have : val (e :: es) n = val [e] n + val es n := val_append (a := [e])
    rw [this, Rat.add_comm]
theorem pair_rev {α β : Type} {F : α → β → Prop} : ∀ {xs : List α} {ys : List β}, Paired F xs ys → Paired F xs.reverse ys.reverse
  | _, _, .nil => .nil
  | _, _, .cons a b => by
    rw [List.reverse_cons, List.reverse_cons]
    exact papp (pair_rev b) (.cons a .nil)
end
end Own

set_option Elab.async false
set_option maxRecDepth 100000
set_option maxHeartbeats 4000000
set_option linter.all false
/-! Data as the text sees it, with no addresses: what slots hold is told by data (imm) or by what the frame alone may change (own); judgements that a reading gives such data. -/
namespace Own
open PySem PySem.Spec PyProof.Rows L2
/-- data -/
inductive D where
  | non | bl (b : Bool) | int (i : Int) | str (x : Str) | ty (n : String)
  | tup (ds : List D) | lst (ds : List D) | dK (kvs : List (Key × D)) | dT (kvs : List (List Key × D))
  | ins (C : Addr) (fs : List (Str × D)) | at_ (a : Addr)
/-- a value is such data, by the objects of I, which never change -/
inductive At (K : PySem.W.Frag) (I : Hp) : V → D → Prop
  | non : At K I .non .non
  | bl (b : Bool) : At K I (.bl b) (.bl b)
  | int (i : Int) : At K I (.int i) (.int i)
  | str (x : Str) : At K I (.str x) (.str x)
  | ty (n : String) : At K I (.ty n) (.ty n)
  | at_ (a : Addr) : At K I (.ref a) (.at_ a)
  | tup {a : Addr} {xs : List V} {ds : List D} : SqT K I a xs → xs.length = ds.length → (∀ (i : Nat) x d, xs[i]? = some x → ds[i]? = some d → At K I x d) → At K I (.ref a) (.tup ds)
  | lst {a : Addr} {xs : List V} {ds : List D} : I a = some (.lst xs) → xs.length = ds.length → (∀ (i : Nat) x d, xs[i]? = some x → ds[i]? = some d → At K I x d) → At K I (.ref a) (.lst ds)
  | dK {a : Addr} {ws : List (Key × V)} {kvs : List (Key × D)} : I a = some (.dK ws) → ws.map (·.1) = kvs.map (·.1) → (∀ (i : Nat) x d, ws[i]? = some x → kvs[i]? = some d → At K I x.2 d.2) → At K I (.ref a) (.dK kvs)
  | dT {a : Addr} {ws : List (List Key × V)} {kvs : List (List Key × D)} : I a = some (.dT ws) → ws.map (·.1) = kvs.map (·.1) → (∀ (i : Nat) x d, ws[i]? = some x → kvs[i]? = some d → At K I x.2 d.2) → At K I (.ref a) (.dT kvs)
  | ins {a dx C : Addr} {ws : List (Str × V)} {fs : List (Str × D)} : I a = some (.ins C dx ws) → I dx = some (.own a) → ws.map (·.1) = fs.map (·.1) → (∀ (i : Nat) x d, ws[i]? = some x → fs[i]? = some d → At K I x.2 d.2) → At K I (.ref a) (.ins C fs)
abbrev Ats (K : PySem.W.Frag) (I : Hp) : List V → List D → Prop := Paired (At K I)
section
variable {K : PySem.W.Frag} {I I' : Hp}
theorem SqT.mono {a : Addr} {xs : List V} (h : SqT K I a xs) (e : Ext I I') : SqT K I' a xs := SqT.ext h e
theorem At.mono {v : V} {d : D} (h : At K I v d) (e : Ext I I') : At K I' v d := by
  induction h with
  | non => exact .non
  | bl b => exact .bl b
  | int i => exact .int i
  | str x => exact .str x
  | ty n => exact .ty n
  | at_ a => exact .at_ a
  | tup h l _ ih => exact .tup (SqT.mono h e) l ih
  | lst h l _ ih => exact .lst (e _ _ h) l ih
  | dK h l _ ih => exact .dK (e _ _ h) l ih
  | dT h l _ ih => exact .dT (e _ _ h) l ih
  | ins h h2 l _ ih => exact .ins (e _ _ h) (e _ _ h2) l ih
theorem paired_of {α β : Type} {R : α → β → Prop} : ∀ {xs : List α} {ys : List β}, xs.length = ys.length → (∀ (i : Nat) x y, xs[i]? = some x → ys[i]? = some y → R x y) → Paired R xs ys
  | [], [], _, _ => .nil
  | [], _ :: _, h, _ => by simp at h
  | _ :: _, [], h, _ => by simp at h
  | x :: xs, y :: ys, h, f => .cons (f 0 x y rfl rfl) (paired_of (by simpa using h) fun i a b ha hb => f (i + 1) a b (by simpa using ha) (by simpa using hb))
theorem paired_at {α β : Type} {R : α → β → Prop} : ∀ {xs : List α} {ys : List β}, Paired R xs ys → ∀ (i : Nat) x y, xs[i]? = some x → ys[i]? = some y → R x y
  | _, _, .nil, i, x, y, hx, _ => by simp at hx
  | _, _, .cons r t, 0, x, y, hx, hy => by
    cases Option.some.inj hx
    cases Option.some.inj hy
    exact r
  | _, _, .cons r t, i + 1, x, y, hx, hy => paired_at t i x y (by simpa using hx) (by simpa using hy)
theorem pair_keys {κ : Type} {R : V → D → Prop} {ws : List (κ × V)} {kvs : List (κ × D)} (h : ws.map (·.1) = kvs.map (·.1)) (f : ∀ (i : Nat) x d, ws[i]? = some x → kvs[i]? = some d → R x.2 d.2) : Paired (fun (p : κ × V) (q : κ × D) => p.1 = q.1 ∧ R p.2 q.2) ws kvs := by
  have hl : ws.length = kvs.length := by simpa using congrArg List.length h
  refine paired_of hl fun i x y hx hy => ⟨?_, f i x y hx hy⟩
  have := congrArg (fun l => l[i]?) h
  simpa [List.getElem?_map, hx, hy] using this
theorem At.tup' {a : Addr} {xs : List V} {ds : List D} (h : SqT K I a xs) (p : Ats K I xs ds) : At K I (.ref a) (.tup ds) := .tup h (Paired.length p) (paired_at p)
theorem At.lst' {a : Addr} {xs : List V} {ds : List D} (h : I a = some (.lst xs)) (p : Ats K I xs ds) : At K I (.ref a) (.lst ds) := .lst h (Paired.length p) (paired_at p)
abbrev KAts (K : PySem.W.Frag) (I : Hp) {κ : Type} : List (κ × V) → List (κ × D) → Prop := Paired fun p q => p.1 = q.1 ∧ At K I p.2 q.2
theorem kats_keys {κ : Type} : ∀ {ws : List (κ × V)} {kvs : List (κ × D)}, KAts K I ws kvs → ws.map (·.1) = kvs.map (·.1)
  | _, _, .nil => rfl
  | _, _, .cons r t => by rw [List.map_cons, List.map_cons, r.1, kats_keys t]
theorem At.dK' {a : Addr} {ws : List (Key × V)} {kvs : List (Key × D)} (h : I a = some (.dK ws)) (p : KAts K I ws kvs) : At K I (.ref a) (.dK kvs) := .dK h (kats_keys p) fun i x y hx hy => (paired_at p i x y hx hy).2
theorem At.dT' {a : Addr} {ws : List (List Key × V)} {kvs : List (List Key × D)} (h : I a = some (.dT ws)) (p : KAts K I ws kvs) : At K I (.ref a) (.dT kvs) := .dT h (kats_keys p) fun i x y hx hy => (paired_at p i x y hx hy).2
theorem At.ins' {a dx C : Addr} {ws : List (Str × V)} {fs : List (Str × D)} (h : I a = some (.ins C dx ws)) (h2 : I dx = some (.own a)) (p : KAts K I ws fs) : At K I (.ref a) (.ins C fs) := .ins h h2 (kats_keys p) fun i x y hx hy => (paired_at p i x y hx hy).2
theorem At.inv_int {v : V} {i : Int} (h : At K I v (.int i)) : v = .int i := by cases h; rfl
theorem At.inv_str {v : V} {i : Str} (h : At K I v (.str i)) : v = .str i := by cases h; rfl
theorem At.inv_bl {v : V} {i : Bool} (h : At K I v (.bl i)) : v = .bl i := by cases h; rfl
theorem At.inv_non {v : V} (h : At K I v .non) : v = .non := by cases h; rfl
theorem At.inv_ty {v : V} {n : String} (h : At K I v (.ty n)) : v = .ty n := by cases h; rfl
theorem At.inv_at {v : V} {a : Addr} (h : At K I v (.at_ a)) : v = .ref a := by cases h; rfl
theorem At.inv_tup {v : V} {ds : List D} (h : At K I v (.tup ds)) : ∃ a xs, v = .ref a ∧ SqT K I a xs ∧ Ats K I xs ds := by
  cases h with
  | tup h l f => exact ⟨_, _, rfl, h, paired_of l f⟩
theorem At.inv_lst {v : V} {ds : List D} (h : At K I v (.lst ds)) : ∃ a xs, v = .ref a ∧ I a = some (.lst xs) ∧ Ats K I xs ds := by
  cases h with
  | lst h l f => exact ⟨_, _, rfl, h, paired_of l f⟩
theorem At.inv_dK {v : V} {kvs : List (Key × D)} (h : At K I v (.dK kvs)) : ∃ a ws, v = .ref a ∧ I a = some (.dK ws) ∧ KAts K I ws kvs := by
  cases h with
  | dK h l f => exact ⟨_, _, rfl, h, pair_keys l f⟩
theorem At.inv_dT {v : V} {kvs : List (List Key × D)} (h : At K I v (.dT kvs)) : ∃ a ws, v = .ref a ∧ I a = some (.dT ws) ∧ KAts K I ws kvs := by
  cases h with
  | dT h l f => exact ⟨_, _, rfl, h, pair_keys l f⟩
theorem At.inv_ins {v : V} {C : Addr} {fs : List (Str × D)} (h : At K I v (.ins C fs)) : ∃ a dx ws, v = .ref a ∧ I a = some (.ins C dx ws) ∧ I dx = some (.own a) ∧ KAts K I ws fs := by
  cases h with
  | ins h h2 l f => exact ⟨_, _, _, rfl, h, h2, pair_keys l f⟩
theorem Ats.mono {xs : List V} {ds : List D} (h : Ats K I xs ds) (e : Ext I I') : Ats K I' xs ds := pmono (fun _ _ z => z.mono e) h
theorem KAts.mono {κ : Type} {xs : List (κ × V)} {ds : List (κ × D)} (h : KAts K I xs ds) (e : Ext I I') : KAts K I' xs ds := pmono (fun _ _ z => ⟨z.1, z.2.mono e⟩) h
theorem ats_ints : ∀ {xs : List V} {ns : List Int}, Ats K I xs (ns.map D.int) → xs = ns.map V.int
  | [], [], _ => rfl
  | [], _ :: _, h => by cases h
  | _ :: _, [], h => by cases h
  | x :: xs, n :: ns, h => by
    cases h with
    | cons a b => rw [a.inv_int, ats_ints b, List.map_cons]
theorem ats_strs : ∀ {xs : List V} {ns : List Str}, Ats K I xs (ns.map D.str) → xs = ns.map V.str
  | [], [], _ => rfl
  | [], _ :: _, h => by cases h
  | _ :: _, [], h => by cases h
  | x :: xs, n :: ns, h => by
    cases h with
    | cons a b => rw [a.inv_str, ats_strs b, List.map_cons]
theorem ats_bls : ∀ {xs : List V} {ns : List Bool}, Ats K I xs (ns.map D.bl) → xs = ns.map V.bl
  | [], [], _ => rfl
  | [], _ :: _, h => by cases h
  | _ :: _, [], h => by cases h
  | x :: xs, n :: ns, h => by
    cases h with
    | cons a b => rw [a.inv_bl, ats_bls b, List.map_cons]
theorem mk_ints : ∀ {ns : List Int}, Ats K I (ns.map V.int) (ns.map D.int)
  | [] => .nil
  | n :: ns => .cons (.int n) mk_ints
theorem mk_strs : ∀ {ns : List Str}, Ats K I (ns.map V.str) (ns.map D.str)
  | [] => .nil
  | n :: ns => .cons (.str n) mk_strs
/-- what a value with no object of its own is -/
def ofV : V → D
  | .non => .non
  | .bl b => .bl b
  | .int i => .int i
  | .str x => .str x
  | .ty n => .ty n
  | .ref a => .at_ a
  | _ => .non
def okV : V → Bool
  | .byt _ => false
  | .flt _ => false
  | _ => true
theorem At.of {v : V} (h : okV v = true) : At K I v (ofV v) := by
  cases v with
  | non => exact .non
  | bl b => exact .bl b
  | int i => exact .int i
  | str x => exact .str x
  | ty n => exact .ty n
  | ref a => exact .at_ a
  | byt _ => cases h
  | flt _ => cases h
end
/-! ### the heap and its part that never changes -/
def isDict : HO → Prop
  | .dK _ => True
  | .dT _ => True
  | _ => False
/-- what is in I is in H; the dicts at L are locked there -/
def Und (L : List Addr) (I H : Hp) : Prop := ∀ p o, I p = some o → (p ∉ L → H p = some o) ∧ (p ∈ L → isDict o ∧ ∃ ob, H p = some (.frz ob o))
/-- the frame: the heap and the unchanging part at its start; the locked dicts -/
structure Fr where
  H0 : Hp
  I0 : Hp
  L : List Addr
structure OkF (F : Fr) (I H : Hp) : Prop where
  i : Ext F.I0 I
  h : Ext F.H0 H
  n : ∀ p, F.H0 p ≠ none → F.I0 p = none → I p = none
  u : Und F.L I H
  l : ∀ q ∈ F.L, I q ≠ none
/-- a step of an expression: nothing that stands is changed -/
structure Stp (L : List Addr) (I H I' H' : Hp) : Prop where
  i : Ext I I'
  h : Ext H H'
  n : ∀ p, H p ≠ none → I p = none → I' p = none
  u : Und L I' H'
theorem ext_trans {A B C : Hp} (a : Ext A B) (b : Ext B C) : Ext A C := fun p o h => b p o (a p o h)
theorem ext_ne {A B : Hp} (a : Ext A B) {p : Addr} (h : A p ≠ none) : B p ≠ none := by
  cases e : A p with
  | none => exact absurd e h
  | some o => rw [a p o e]; exact fun z => by cases z
theorem Und.tup {L : List Addr} {I H : Hp} (u : Und L I H) {a : Addr} {o : HO} (h : I a = some o) (hd : ¬ isDict o) : H a = some o := by
  by_cases hl : a ∈ L
  · exact absurd ((u a o h).2 hl).1 hd
  · exact (u a o h).1 hl
theorem Und.rd {L : List Addr} {I H : Hp} (u : Und L I H) {a : Addr} {o : HO} (h : I a = some o) : Rd H a o := by
  by_cases hl : a ∈ L
  · exact .inr ((u a o h).2 hl).2
  · exact .inl ((u a o h).1 hl)
theorem Und.sqT {L : List Addr} {I H : Hp} {K : PySem.W.Frag} (u : Und L I H) {a : Addr} {xs : List V} (h : SqT K I a xs) : SqT K H a xs := by
  rcases h with (h | ⟨o, h⟩) | h
  · exact .inl (.inl (u.tup h fun z => z))
  · exact .inl (.inr ⟨o, u.tup h fun z => z⟩)
  · exact .inr h
theorem Und.ne {L : List Addr} {I H : Hp} (u : Und L I H) {a : Addr} (h : I a ≠ none) : H a ≠ none := by
  cases e : I a with
  | none => exact absurd e h
  | some o =>
    rcases u.rd e with z | ⟨ob, z⟩ <;> rw [z] <;> exact fun z => by cases z
theorem Und.no {L : List Addr} {I H : Hp} (u : Und L I H) {a : Addr} (h : H a = none) : I a = none := Classical.byContradiction fun z => u.ne z h
theorem Stp.refl {L : List Addr} {I H : Hp} (u : Und L I H) : Stp L I H I H := ⟨Ext.refl' _, Ext.refl' _, fun _ _ h => h, u⟩
theorem Stp.trans {L : List Addr} {I H I1 H1 I2 H2 : Hp} (a : Stp L I H I1 H1) (b : Stp L I1 H1 I2 H2) : Stp L I H I2 H2 :=
  ⟨ext_trans a.i b.i, ext_trans a.h b.h, fun p h z => b.n p (ext_ne a.h h) (a.n p h z), b.u⟩
theorem OkF.step {F : Fr} {I H I' H' : Hp} (o : OkF F I H) (s : Stp F.L I H I' H') : OkF F I' H' :=
  ⟨ext_trans o.i s.i, ext_trans o.h s.h, fun p h z => s.n p (ext_ne o.h h) (o.n p h z), s.u, fun q h => ext_ne s.i (o.l q h)⟩
/-- a new object -/
theorem Stp.new {L : List Addr} {I H : Hp} {p : Addr} {o : HO} (u : Und L I H) (l : ∀ q ∈ L, I q ≠ none) (hp : H p = none) : Stp L I H (L2.upd I p o) (L2.upd H p o) := by
  have ip := u.no hp
  have pl : p ∉ L := fun z => l p z ip
  refine ⟨Ext.upd ip, Ext.upd hp, fun q h z => ?_, fun q r h => ?_⟩
  · rw [upd_ne (fun e => h (by rw [e]; exact hp))]
    exact z
  · by_cases e : q = p
    · subst e
      rw [upd_same] at h ⊢
      exact ⟨fun _ => h, fun z => absurd z pl⟩
    · rw [upd_ne e] at h ⊢
      exact u q r h
/-! ### slots -/
/-- what the frame alone may change: by the unchanging part, the heap, the value, its addresses -/
structure Res where
  φ : Hp → Hp → V → List Addr → Prop
  st : ∀ {I I' H H' : Hp} {v : V} {fp : List Addr}, φ I H v fp → Ext I I' → (∀ q ∈ fp, H' q = H q) → φ I' H' v fp
inductive Slot where
  | un | imm (d : D) | own (r : Res)
inductive Slots (K : PySem.W.Frag) (I H : Hp) : List Slot → L2.St → List Addr → Prop
  | nil : Slots K I H [] [] []
  | un {o : Option V} {ρ : List Slot} {σ : L2.St} {fp : List Addr} : Slots K I H ρ σ fp → Slots K I H (.un :: ρ) (o :: σ) fp
  | imm {v : V} {d : D} {ρ : List Slot} {σ : L2.St} {fp : List Addr} : At K I v d → Slots K I H ρ σ fp → Slots K I H (.imm d :: ρ) (some v :: σ) fp
  | own {v : V} {r : Res} {ρ : List Slot} {σ : L2.St} {f fp : List Addr} : r.φ I H v f → Slots K I H ρ σ fp → Slots K I H (.own r :: ρ) (some v :: σ) (f ++ fp)
section
variable {K : PySem.W.Frag} {I I' H H' : Hp}
theorem Slots.step {ρ : List Slot} {σ : L2.St} {fp : List Addr} (h : Slots K I H ρ σ fp) (e : Ext I I') (f : ∀ q ∈ fp, H' q = H q) : Slots K I' H' ρ σ fp := by
  induction h with
  | nil => exact .nil
  | un _ ih => exact .un (ih f)
  | imm a _ ih => exact .imm (a.mono e) (ih f)
  | own a _ ih => exact .own (Res.st _ a e fun q hq => f q (List.mem_append_left _ hq)) (ih fun q hq => f q (List.mem_append_right _ hq))
theorem Slots.get {ρ : List Slot} {σ : L2.St} {fp : List Addr} (h : Slots K I H ρ σ fp) : ∀ {i : Nat} {d : D}, ρ[i]? = some (.imm d) → ∃ v, σ[i]? = some (some v) ∧ At K I v d := by
  induction h with
  | nil => intro i d e; simp at e
  | un _ ih =>
    intro i d e
    cases i with
    | zero => simp at e
    | succ i => exact ih (i := i) (by simpa using e)
  | @imm v d' ρ σ fp a _ ih =>
    intro i d e
    cases i with
    | zero =>
      have : d' = d := by simpa using e
      exact this ▸ ⟨v, rfl, a⟩
    | succ i => exact ih (i := i) (by simpa using e)
  | own a _ ih =>
    intro i d e
    cases i with
    | zero => simp at e
    | succ i => exact ih (i := i) (by simpa using e)
theorem Slots.len {ρ : List Slot} {σ : L2.St} {fp : List Addr} (h : Slots K I H ρ σ fp) : ρ.length = σ.length := by
  induction h with
  | nil => rfl
  | un _ ih => simp [ih]
  | imm _ _ ih => simp [ih]
  | own _ _ ih => simp [ih]
/-- the slot i anew, with nothing of its own -/
theorem Slots.set {ρ : List Slot} {σ : L2.St} {fp : List Addr} (h : Slots K I H ρ σ fp) {v : V} {d : D} (a : At K I v d) : ∀ i : Nat, ∃ fp', fp'.Sublist fp ∧ Slots K I H (ρ.set i (.imm d)) (σ.set i (some v)) fp' := by
  induction h with
  | nil => exact fun i => ⟨[], .slnil, .nil⟩
  | un h ih =>
    intro i
    cases i with
    | zero => exact ⟨_, List.Sublist.refl _, .imm a h⟩
    | succ i =>
      obtain ⟨fp', s, z⟩ := ih i
      exact ⟨fp', s, .un z⟩
  | imm b h ih =>
    intro i
    cases i with
    | zero => exact ⟨_, List.Sublist.refl _, .imm a h⟩
    | succ i =>
      obtain ⟨fp', s, z⟩ := ih i
      exact ⟨fp', s, .imm b z⟩
  | @own v' r ρ σ f fp b h ih =>
    intro i
    cases i with
    | zero => exact ⟨_, List.sublist_append_right _ _, .imm a h⟩
    | succ i =>
      obtain ⟨fp', s, z⟩ := ih i
      exact ⟨f ++ fp', List.Sublist.append (List.Sublist.refl _) s, .own b z⟩
/-- the slot i forgotten -/
theorem Slots.drop {ρ : List Slot} {σ : L2.St} {fp : List Addr} (h : Slots K I H ρ σ fp) (o : Option V) : ∀ i : Nat, ∃ fp', fp'.Sublist fp ∧ Slots K I H (ρ.set i .un) (σ.set i o) fp' := by
  induction h with
  | nil => exact fun i => ⟨[], .slnil, .nil⟩
  | un h ih =>
    intro i
    cases i with
    | zero => exact ⟨_, List.Sublist.refl _, .un h⟩
    | succ i =>
      obtain ⟨fp', s, z⟩ := ih i
      exact ⟨fp', s, .un z⟩
  | imm b h ih =>
    intro i
    cases i with
    | zero => exact ⟨_, List.Sublist.refl _, .un h⟩
    | succ i =>
      obtain ⟨fp', s, z⟩ := ih i
      exact ⟨fp', s, .imm b z⟩
  | @own v' r ρ σ f fp b h ih =>
    intro i
    cases i with
    | zero => exact ⟨_, List.sublist_append_right _ _, .un h⟩
    | succ i =>
      obtain ⟨fp', s, z⟩ := ih i
      exact ⟨f ++ fp', List.Sublist.append (List.Sublist.refl _) s, .own b z⟩
/-- what the slot i has of its own, parted from the rest; another thing may be put there -/
theorem Slots.part {ρ : List Slot} {σ : L2.St} {fp : List Addr} (h : Slots K I H ρ σ fp) : ∀ {i : Nat} {r : Res}, ρ[i]? = some (.own r) → ∃ v f g, σ[i]? = some (some v) ∧ r.φ I H v f ∧ fp.Perm (f ++ g) ∧
    (∀ w, Slots K I H (ρ.set i .un) (σ.set i w) g) ∧ ∀ (I' H' : Hp) (s : Res) (w : V) (f' : List Addr), Ext I I' → (∀ q ∈ g, H' q = H q) → s.φ I' H' w f' → ∃ fp', fp'.Perm (f' ++ g) ∧ Slots K I' H' (ρ.set i (.own s)) (σ.set i (some w)) fp' := by
  induction h with
  | nil => intro i r e; simp at e
  | @un o ρ σ fp h ih =>
    intro i r e
    cases i with
    | zero => simp at e
    | succ i =>
      obtain ⟨v, f, g, h1, h2, h3, h4, h5⟩ := ih (i := i) (r := r) (by simpa using e)
      refine ⟨v, f, g, by simpa using h1, h2, h3, fun w => .un (h4 w), fun I' H' s w f' e1 e2 hs => ?_⟩
      · obtain ⟨fp', p, z⟩ := h5 I' H' s w f' e1 e2 hs
        exact ⟨fp', p, .un z⟩
  | @imm v' d' ρ σ fp a h ih =>
    intro i r e
    cases i with
    | zero => simp at e
    | succ i =>
      obtain ⟨v, f, g, h1, h2, h3, h4, h5⟩ := ih (i := i) (r := r) (by simpa using e)
      refine ⟨v, f, g, by simpa using h1, h2, h3, fun w => .imm a (h4 w), fun I' H' s w f' e1 e2 hs => ?_⟩
      · obtain ⟨fp', p, z⟩ := h5 I' H' s w f' e1 e2 hs
        exact ⟨fp', p, .imm (a.mono e1) z⟩
  | @own v' r' ρ σ f0 fp b h ih =>
    intro i r e
    cases i with
    | zero =>
      have : r' = r := by simpa using e
      subst this
      refine ⟨v', f0, fp, rfl, b, List.Perm.refl _, fun w => .un h, fun I' H' s w f' e1 e2 hs => ⟨f' ++ fp, List.Perm.refl _, .own hs (h.step e1 e2)⟩⟩
    | succ i =>
      obtain ⟨v, f, g, h1, h2, h3, h4, h5⟩ := ih (i := i) (r := r) (by simpa using e)
      refine ⟨v, f, f0 ++ g, by simpa using h1, h2, ?_, fun w => .own b (h4 w), fun I' H' s w f' e1 e2 hs => ?_⟩
      · refine (List.Perm.append_left f0 h3).trans ?_
        rw [← List.append_assoc, ← List.append_assoc]
        exact List.Perm.append_right g List.perm_append_comm
      · obtain ⟨fp', p, z⟩ := h5 I' H' s w f' e1 (fun q hq => e2 q (List.mem_append_right _ hq)) hs
        refine ⟨f0 ++ fp', ?_, .own (r'.st b e1 fun q hq => e2 q (List.mem_append_left _ hq)) z⟩
        refine (List.Perm.append_left f0 p).trans ?_
        rw [← List.append_assoc, ← List.append_assoc]
        exact List.Perm.append_right g List.perm_append_comm
end
/-- slots and heap under a frame -/
structure Sta (K : PySem.W.Frag) (F : Fr) (ρ : List Slot) (I : Hp) (σ : L2.St) (H : Hp) : Prop where
  ok : OkF F I H
  sl : ∃ fp, Slots K I H ρ σ fp ∧ fp.Nodup ∧ ∀ q ∈ fp, I q = none ∧ F.H0 q = none ∧ H q ≠ none
section
variable {K : PySem.W.Frag} {F : Fr} {ρ : List Slot} {I I' H H' : Hp} {σ : L2.St}
theorem Sta.step (h : Sta K F ρ I σ H) (s : Stp F.L I H I' H') : Sta K F ρ I' σ H' := by
  obtain ⟨fp, a, n, k⟩ := h.sl
  refine ⟨h.ok.step s, fp, a.step s.i fun q hq => ?_, n, fun q hq => ?_⟩
  · cases e : H q with
    | none => exact absurd e (k q hq).2.2
    | some o => exact s.h q o e
  · obtain ⟨k1, k2, k3⟩ := k q hq
    exact ⟨s.n q k3 k1, k2, ext_ne s.h k3⟩
theorem Sta.get (h : Sta K F ρ I σ H) {i : Nat} {d : D} (e : ρ[i]? = some (.imm d)) : ∃ v, σ[i]? = some (some v) ∧ At K I v d := by
  obtain ⟨fp, a, _⟩ := h.sl
  exact a.get e
theorem Sta.set (h : Sta K F ρ I σ H) {v : V} {d : D} (a : At K I v d) (i : Nat) : Sta K F (ρ.set i (.imm d)) I (σ.set i (some v)) H := by
  obtain ⟨fp, s, n, k⟩ := h.sl
  obtain ⟨fp', l, s'⟩ := s.set a i
  exact ⟨h.ok, fp', s', n.sublist l, fun q hq => k q (l.subset hq)⟩
theorem Sta.drop (h : Sta K F ρ I σ H) (o : Option V) (i : Nat) : Sta K F (ρ.set i .un) I (σ.set i o) H := by
  obtain ⟨fp, s, n, k⟩ := h.sl
  obtain ⟨fp', l, s'⟩ := s.drop o i
  exact ⟨h.ok, fp', s', n.sublist l, fun q hq => k q (l.subset hq)⟩
end
end Own

set_option Elab.async false
set_option maxRecDepth 100000
set_option maxHeartbeats 4000000
set_option linter.all false
/-! What a reading gives, by data: expressions (GvE), tests (GvT), arguments (GvA), what a loop walks (GvI), targets (GvG), statements (Blk). -/
namespace Own
open PySem PySem.Spec PyProof.Rows L2
section
variable (K : PySem.W.Frag) (F : Fr) (ρ : List Slot)
structure GvE (t : TE) (d : D) : Prop where
  run : ∀ {I H : Hp} {σ : L2.St} {Q : VK}, Sta K F ρ I σ H → (∀ v I' H', Stp F.L I H I' H' → At K I' v d → Q v H') → t σ H Q
structure GvA (t : TA) (ds : List D) : Prop where
  run : ∀ {I H : Hp} {σ : L2.St} {Q : List V → Hp → Prop}, Sta K F ρ I σ H → (∀ vs I' H', Stp F.L I H I' H' → Ats K I' vs ds → Q vs H') → t σ H Q
structure GvT (t : TT) (b : Bool) : Prop where
  run : ∀ {I H : Hp} {σ : L2.St} {Q : Bool → Hp → Prop}, Sta K F ρ I σ H → (∀ I' H', Stp F.L I H I' H' → Q b H') → t σ H Q
structure GvO (t : TO) (o : Option Int) : Prop where
  run : ∀ {I H : Hp} {σ : L2.St} {Q : Option Int → Hp → Prop}, Sta K F ρ I σ H → (∀ I' H', Stp F.L I H I' H' → Q o H') → t σ H Q
structure Rl2 (r : R2) (d e g : D) : Prop where
  run : ∀ {I H : Hp} {x y : V} {Q : VK}, OkF F I H → At K I x d → At K I y e → (∀ v I' H', Stp F.L I H I' H' → At K I' v g → Q v H') → r x y H Q
structure Rl1 (r : V → Hp → VK → Prop) (d g : D) : Prop where
  run : ∀ {I H : Hp} {x : V} {Q : VK}, OkF F I H → At K I x d → (∀ v I' H', Stp F.L I H I' H' → At K I' v g → Q v H') → r x H Q
structure RlC (r : List V → Hp → VK → Prop) (ds : List D) (g : D) : Prop where
  run : ∀ {I H : Hp} {xs : List V} {Q : VK}, OkF F I H → Ats K I xs ds → (∀ v I' H', Stp F.L I H I' H' → At K I' v g → Q v H') → r xs H Q
structure RlM (r : V → List V → Hp → VK → Prop) (d : D) (ds : List D) (g : D) : Prop where
  run : ∀ {I H : Hp} {x : V} {xs : List V} {Q : VK}, OkF F I H → At K I x d → Ats K I xs ds → (∀ v I' H', Stp F.L I H I' H' → At K I' v g → Q v H') → r x xs H Q
structure RlS (r : V → Option Int → Option Int → Hp → VK → Prop) (d : D) (lo hi : Option Int) (g : D) : Prop where
  run : ∀ {I H : Hp} {x : V} {Q : VK}, OkF F I H → At K I x d → (∀ v I' H', Stp F.L I H I' H' → At K I' v g → Q v H') → r x lo hi H Q
end
section
variable {K : PySem.W.Frag} {F : Fr} {ρ : List Slot} {d e g : D} {ds es : List D} {ta tb te tc : TE} {t : TA} {b c : Bool} {tt tu : TT}
/-! new objects -/
theorem new_tup {I H : Hp} {p : Addr} {xs : List V} (o : OkF F I H) (hp : H p = none) (a : Ats K I xs ds) : Stp F.L I H (L2.upd I p (.tup xs)) (L2.upd H p (.tup xs)) ∧ At K (L2.upd I p (.tup xs)) (.ref p) (.tup ds) :=
  ⟨Stp.new o.u o.l hp, .tup' (ofT upd_same) (a.mono (Ext.upd (o.u.no hp)))⟩
theorem new_lst {I H : Hp} {p : Addr} {xs : List V} (o : OkF F I H) (hp : H p = none) (a : Ats K I xs ds) : Stp F.L I H (L2.upd I p (.lst xs)) (L2.upd H p (.lst xs)) ∧ At K (L2.upd I p (.lst xs)) (.ref p) (.lst ds) :=
  ⟨Stp.new o.u o.l hp, .lst' upd_same (a.mono (Ext.upd (o.u.no hp)))⟩
theorem new_dK {I H : Hp} {p : Addr} {ws : List (Key × V)} {kvs : List (Key × D)} (o : OkF F I H) (hp : H p = none) (a : KAts K I ws kvs) : Stp F.L I H (L2.upd I p (.dK ws)) (L2.upd H p (.dK ws)) ∧ At K (L2.upd I p (.dK ws)) (.ref p) (.dK kvs) :=
  ⟨Stp.new o.u o.l hp, .dK' upd_same (a.mono (Ext.upd (o.u.no hp)))⟩
/-! ### expressions -/
namespace GvE
theorem var {i : Nat} (h : ρ[i]? = some (.imm d)) : GvE K F ρ (tVar i) d := ⟨fun s k => by
  obtain ⟨v, e, a⟩ := s.get h
  exact ⟨v, e, k v _ _ (.refl s.ok.u) a⟩⟩
theorem con {v : V} (h : okV v = true) : GvE K F ρ (tC v) (ofV v) := ⟨fun s k => k v _ _ (.refl s.ok.u) (.of h)⟩
theorem int {i : Int} : GvE K F ρ (tC (.int i)) (.int i) := con rfl
theorem str {i : Str} : GvE K F ρ (tC (.str i)) (.str i) := con rfl
theorem bl {i : Bool} : GvE K F ρ (tC (.bl i)) (.bl i) := con rfl
theorem non : GvE K F ρ (tC .non) .non := con rfl
theorem glob {a : Addr} : GvE K F ρ (tC (.ref a)) (.at_ a) := con rfl
theorem ty {n : String} : GvE K F ρ (tC (.ty n)) (.ty n) := con rfl
theorem op {r : R2} (ha : GvE K F ρ ta d) (hb : GvE K F ρ tb e) (hr : Rl2 K F r d e g) : GvE K F ρ (tOp r ta tb) g := ⟨fun s k =>
  ha.run s fun x I1 H1 s1 a1 => hb.run (s.step s1) fun y I2 H2 s2 a2 => hr.run ((s.ok.step s1).step s2) (a1.mono s2.i) a2 fun v I3 H3 s3 a3 => k v I3 H3 ((s1.trans s2).trans s3) a3⟩
theorem un {r : V → Hp → VK → Prop} (ha : GvE K F ρ ta d) (hr : Rl1 K F r d g) : GvE K F ρ (tUn r ta) g := ⟨fun s k =>
  ha.run s fun x I1 H1 s1 a1 => hr.run (s.ok.step s1) a1 fun v I3 H3 s3 a3 => k v I3 H3 (s1.trans s3) a3⟩
theorem cb {r : List V → Hp → VK → Prop} (ha : GvA K F ρ t ds) (hr : RlC K F r ds g) : GvE K F ρ (tCB r t) g := ⟨fun s k =>
  ha.run s fun x I1 H1 s1 a1 => hr.run (s.ok.step s1) a1 fun v I3 H3 s3 a3 => k v I3 H3 (s1.trans s3) a3⟩
theorem tup (ha : GvA K F ρ t ds) (hl : ds.length ≤ 16777216) : GvE K F ρ (tTup t) (.tup ds) := ⟨fun s k =>
  ha.run s fun x I1 H1 s1 a1 => ⟨by rw [Paired.length a1]; exact hl, fun p hp => by
    obtain ⟨s2, a2⟩ := new_tup (s.ok.step s1) hp a1
    exact k _ _ _ (s1.trans s2) a2⟩⟩
theorem lst (ha : GvA K F ρ t ds) (hl : ds.length ≤ 16777216) : GvE K F ρ (tLst t) (.lst ds) := ⟨fun s k =>
  ha.run s fun x I1 H1 s1 a1 => ⟨by rw [Paired.length a1]; exact hl, fun p hp => by
    obtain ⟨s2, a2⟩ := new_lst (s.ok.step s1) hp a1
    exact k _ _ _ (s1.trans s2) a2⟩⟩
theorem dnew : GvE K F ρ tDNewK (.dK []) := ⟨fun s k p hp => by
  obtain ⟨s2, a2⟩ := new_dK (K := K) (kvs := []) s.ok hp .nil
  exact k _ _ _ s2 a2⟩
theorem andV {x y : Bool} (ha : GvE K F ρ ta (.bl x)) (hb : x = true → GvE K F ρ tb (.bl y)) : GvE K F ρ (tAndV ta tb) (.bl (x && y)) := ⟨fun s k =>
  ha.run s fun v I1 H1 s1 a1 => ⟨x, a1.inv_bl, by
    cases x with
    | true => exact (hb rfl).run (s.step s1) fun w I2 H2 s2 a2 => k w I2 H2 (s1.trans s2) a2
    | false => exact k _ I1 H1 s1 (.bl _)⟩⟩
theorem orV {x y : Bool} (ha : GvE K F ρ ta (.bl x)) (hb : x = false → GvE K F ρ tb (.bl y)) : GvE K F ρ (tOrV ta tb) (.bl (x || y)) := ⟨fun s k =>
  ha.run s fun v I1 H1 s1 a1 => ⟨x, a1.inv_bl, by
    cases x with
    | true => exact k _ I1 H1 s1 (.bl _)
    | false => exact (hb rfl).run (s.step s1) fun w I2 H2 s2 a2 => k w I2 H2 (s1.trans s2) a2⟩⟩
theorem notV {x : Bool} (ha : GvE K F ρ ta (.bl x)) : GvE K F ρ (tNotV ta) (.bl (!x)) := ⟨fun s k =>
  ha.run s fun v I1 H1 s1 a1 => ⟨x, a1.inv_bl, k _ I1 H1 s1 (.bl _)⟩⟩
theorem ite {α : Type} (f : α → D) {x y : α} (h : GvT K F ρ tt b) (ha : b = true → GvE K F ρ ta (f x)) (hb : b = false → GvE K F ρ tb (f y)) : GvE K F ρ (tIf tt ta tb) (f (if b then x else y)) := ⟨fun s k =>
  h.run s fun I1 H1 s1 => by
    cases b with
    | true => exact (ha rfl).run (s.step s1) fun w I2 H2 s2 a2 => k w I2 H2 (s1.trans s2) a2
    | false => exact (hb rfl).run (s.step s1) fun w I2 H2 s2 a2 => k w I2 H2 (s1.trans s2) a2⟩
theorem ite' (h : GvT K F ρ tt b) (ha : b = true → GvE K F ρ ta d) (hb : b = false → GvE K F ρ tb d) : GvE K F ρ (tIf tt ta tb) d := ⟨fun s k =>
  h.run s fun I1 H1 s1 => by
    cases b with
    | true => exact (ha rfl).run (s.step s1) fun w I2 H2 s2 a2 => k w I2 H2 (s1.trans s2) a2
    | false => exact (hb rfl).run (s.step s1) fun w I2 H2 s2 a2 => k w I2 H2 (s1.trans s2) a2⟩
theorem sl {r : V → Option Int → Option Int → Hp → VK → Prop} {tl th : TO} {lo hi : Option Int} (he : GvE K F ρ te d) (hl : GvO K F ρ tl lo) (hh : GvO K F ρ th hi) (hr : RlS K F r d lo hi g) : GvE K F ρ (tSl r te tl th) g := ⟨fun s k =>
  he.run s fun x I1 H1 s1 a1 => hl.run (s.step s1) fun I2 H2 s2 => hh.run ((s.step s1).step s2) fun I3 H3 s3 =>
    hr.run (((s.ok.step s1).step s2).step s3) ((a1.mono s2.i).mono s3.i) fun v I4 H4 s4 a4 => k v I4 H4 (((s1.trans s2).trans s3).trans s4) a4⟩
theorem m1 {r : V → List V → Hp → VK → Prop} {x : Str} (ha : GvE K F ρ ta (.str x)) (hb : GvE K F ρ tb e) (hr : RlM K F r (.str x) [e] g) : GvE K F ρ (tM1 r ta tb) g := ⟨fun s k =>
  ha.run s fun v I1 H1 s1 a1 => ⟨⟨x, a1.inv_str⟩, hb.run (s.step s1) fun y I2 H2 s2 a2 => hr.run ((s.ok.step s1).step s2) (a1.mono s2.i) (.cons a2 .nil) fun v I3 H3 s3 a3 => k v I3 H3 ((s1.trans s2).trans s3) a3⟩⟩
theorem m0 {r : V → List V → Hp → VK → Prop} {x : Str} (ha : GvE K F ρ ta (.str x)) (hr : RlM K F r (.str x) [] g) : GvE K F ρ (tM0 r ta) g := ⟨fun s k =>
  ha.run s fun v I1 H1 s1 a1 => ⟨⟨x, a1.inv_str⟩, hr.run (s.ok.step s1) a1 .nil fun v I3 H3 s3 a3 => k v I3 H3 (s1.trans s3) a3⟩⟩
theorem fld {f : Str} {C : Addr} {fs : List (Str × D)} (ha : GvE K F ρ ta (.ins C fs)) (c : Cls K C) (n : NoAttr K C f) (h : fs.lookup f = some d) : GvE K F ρ (tFld K ta f) d := ⟨fun s k =>
  ha.run s fun v I1 H1 s1 a1 => by
    obtain ⟨a, dx, ws, rfl, h1, h2, p⟩ := a1.inv_ins
    have look : ∀ {ws : List (Str × V)} {fs : List (Str × D)}, KAts K I1 ws fs → fs.lookup f = some d → ∃ v, ws.lookup f = some v ∧ At K I1 v d := by
      intro ws fs p
      induction p with
      | nil => intro h; cases h
      | @cons x y xs ys r t ih =>
        intro h
        obtain ⟨x1, x2⟩ := x
        obtain ⟨y1, y2⟩ := y
        obtain ⟨r1, r2⟩ := r
        have r1 : x1 = y1 := r1
        subst r1
        rw [List.lookup_cons] at h ⊢
        cases e : f == x1 with
        | true =>
          rw [e] at h
          have : y2 = d := by simpa using h
          exact ⟨x2, rfl, this ▸ r2⟩
        | false =>
          rw [e] at h
          exact ih h
    obtain ⟨v, hv, av⟩ := look p h
    exact ⟨a, C, dx, ws, v, rfl, (s.ok.step s1).u.tup h1 fun z => z, c, n, hv, k v _ _ s1 av⟩⟩
end GvE
theorem look_key {K : PySem.W.Frag} {I : Hp} {κ : Type} [DecidableEq κ] {k : κ} : ∀ {ws : List (κ × V)} {kvs : List (κ × D)}, KAts K I ws kvs → ∀ {d : D}, (kvs.find? fun p => decide (p.1 = k)).map (·.2) = some d → ∃ v, valV ws k = some v ∧ At K I v d
  | _, _, .nil, d, h => by simp at h
  | x :: xs, y :: ys, .cons r t, d, h => by
    obtain ⟨r1, r2⟩ := r
    unfold valV
    rw [List.find?_cons] at h ⊢
    rw [← r1] at h
    cases e : decide (x.1 = k) with
    | true =>
      rw [e] at h
      have : y.2 = d := by simpa using h
      exact ⟨x.2, rfl, this ▸ r2⟩
    | false =>
      rw [e] at h
      exact look_key t h
/-- what a dict holds at a key -/
def getD {κ : Type} [DecidableEq κ] (kvs : List (κ × D)) (k : κ) : Option D := (kvs.find? fun p => decide (p.1 = k)).map (·.2)
theorem look_no {K : PySem.W.Frag} {I : Hp} {κ : Type} [DecidableEq κ] {k : κ} : ∀ {ws : List (κ × V)} {kvs : List (κ × D)}, KAts K I ws kvs → (valV ws k).isSome = (getD kvs k).isSome
  | _, _, .nil => rfl
  | x :: xs, y :: ys, .cons r t => by
    obtain ⟨r1, r2⟩ := r
    unfold valV getD
    rw [List.find?_cons, List.find?_cons, ← r1]
    cases e : decide (x.1 = k) with
    | true => rfl
    | false => exact look_no t
/-! ### arguments, tests, parts of slices -/
namespace GvA
theorem nil : GvA K F ρ tNil [] := ⟨fun s k => k [] _ _ (.refl s.ok.u) .nil⟩
theorem cons (ha : GvE K F ρ ta d) (hr : GvA K F ρ t ds) : GvA K F ρ (tCons ta t) (d :: ds) := ⟨fun s k =>
  ha.run s fun x I1 H1 s1 a1 => hr.run (s.step s1) fun xs I2 H2 s2 a2 => k _ I2 H2 (s1.trans s2) (.cons (a1.mono s2.i) a2)⟩
end GvA
namespace GvT
theorem val (h : GvE K F ρ ta (.bl b)) : GvT K F ρ (tB ta) b := ⟨fun s k => h.run s fun v I1 H1 s1 a1 => ⟨b, a1.inv_bl, k I1 H1 s1⟩⟩
theorem test (h : GvE K F ρ ta (.bl b)) : GvT K F ρ (tTest ta) b := ⟨fun s k => h.run s fun v I1 H1 s1 a1 => ⟨b, a1.inv_bl, k I1 H1 s1⟩⟩
theorem and (h : GvT K F ρ tt b) (h2 : b = true → GvT K F ρ tu c) : GvT K F ρ (tAnd tt tu) (b && c) := ⟨fun s k => h.run s fun I1 H1 s1 => by
  cases b with
  | true => exact (h2 rfl).run (s.step s1) fun I2 H2 s2 => k I2 H2 (s1.trans s2)
  | false => exact k I1 H1 s1⟩
theorem or (h : GvT K F ρ tt b) (h2 : b = false → GvT K F ρ tu c) : GvT K F ρ (tOr tt tu) (b || c) := ⟨fun s k => h.run s fun I1 H1 s1 => by
  cases b with
  | true => exact k I1 H1 s1
  | false => exact (h2 rfl).run (s.step s1) fun I2 H2 s2 => k I2 H2 (s1.trans s2)⟩
theorem not (h : GvT K F ρ tt b) : GvT K F ρ (tNot tt) (!b) := ⟨fun s k => h.run s fun I1 H1 s1 => k I1 H1 s1⟩
theorem yes : GvT K F ρ tYes true := ⟨fun s k => k _ _ (.refl s.ok.u)⟩
theorem cast (h : GvT K F ρ tt b) (e : b = c) : GvT K F ρ tt c := e ▸ h
end GvT
theorem GvE.cast (h : GvE K F ρ te d) (e : d = g) : GvE K F ρ te g := e ▸ h
theorem GvO.no : GvO K F ρ tNoPart none := ⟨fun s k => k _ _ (.refl s.ok.u)⟩
theorem GvO.of {i : Int} (h : GvE K F ρ te (.int i)) : GvO K F ρ (tPart te) (some i) := ⟨fun s k => h.run s fun v I1 H1 s1 a1 => ⟨i, a1.inv_int, k I1 H1 s1⟩⟩
/-! ### operators, by data -/
section
variable {i j : Int} {x y : Str}
theorem rl_int0 {f : Int → Int → V} (h : okV (f i j) = true) : Rl2 K F (rI0 f) (.int i) (.int j) (ofV (f i j)) := ⟨fun o a b k => ⟨i, j, a.inv_int, b.inv_int, k _ _ _ (.refl o.u) (.of h)⟩⟩
theorem rl_add : Rl2 K F (rI0 fun i j => .int (i + j)) (.int i) (.int j) (.int (i + j)) := rl_int0 rfl
theorem rl_sub : Rl2 K F (rI0 fun i j => .int (i - j)) (.int i) (.int j) (.int (i - j)) := rl_int0 rfl
theorem rl_lt : Rl2 K F (rI0 fun i j => .bl (decide (i < j))) (.int i) (.int j) (.bl (decide (i < j))) := rl_int0 (f := fun i j => .bl (decide (i < j))) rfl
theorem rl_le : Rl2 K F (rI0 fun i j => .bl (decide (i ≤ j))) (.int i) (.int j) (.bl (decide (i ≤ j))) := rl_int0 (f := fun i j => .bl (decide (i ≤ j))) rfl
theorem rl_gt : Rl2 K F (rI0 fun i j => .bl (decide (j < i))) (.int i) (.int j) (.bl (decide (j < i))) := rl_int0 (f := fun i j => .bl (decide (j < i))) rfl
theorem rl_ge : Rl2 K F (rI0 fun i j => .bl (decide (j ≤ i))) (.int i) (.int j) (.bl (decide (j ≤ i))) := rl_int0 (f := fun i j => .bl (decide (j ≤ i))) rfl
theorem rl_I {C : Int → Int → Prop} {f : Int → Int → Int} (h : C i j) : Rl2 K F (rI C fun i j => .int (f i j)) (.int i) (.int j) (.int (f i j)) := ⟨fun o a b k => ⟨i, j, a.inv_int, b.inv_int, h, k _ _ _ (.refl o.u) (.int _)⟩⟩
theorem rl_neg : Rl1 K F (rU fun i => .int (-i)) (.int i) (.int (-i)) := ⟨fun o a k => ⟨i, a.inv_int, k _ _ _ (.refl o.u) (.int _)⟩⟩
/-- values with no object -/
def scalD : D → D → Bool
  | .int _, .int _ => true
  | .str _, .str _ => true
  | .bl _, .bl _ => true
  | .non, .non => true
  | _, _ => false
theorem rl_eqI : Rl2 K F rEq (.int i) (.int j) (.bl (decide (i = j))) := ⟨fun o a b k => by
  obtain rfl := a.inv_int
  obtain rfl := b.inv_int
  refine ⟨rfl, k _ _ _ (.refl o.u) ?_⟩
  rw [show decide (V.int i = V.int j) = decide (i = j) from decide_eq_decide.mpr ⟨fun z => V.int.inj z, fun z => by rw [z]⟩]
  exact .bl _⟩
theorem rl_neI : Rl2 K F rNe (.int i) (.int j) (.bl (!decide (i = j))) := ⟨fun o a b k => by
  obtain rfl := a.inv_int
  obtain rfl := b.inv_int
  refine ⟨rfl, k _ _ _ (.refl o.u) ?_⟩
  rw [show decide (V.int i = V.int j) = decide (i = j) from decide_eq_decide.mpr ⟨fun z => V.int.inj z, fun z => by rw [z]⟩]
  exact .bl _⟩
theorem rl_eqS : Rl2 K F rEq (.str x) (.str y) (.bl (decide (x = y))) := ⟨fun o a b k => by
  obtain rfl := a.inv_str
  obtain rfl := b.inv_str
  refine ⟨rfl, k _ _ _ (.refl o.u) ?_⟩
  rw [show decide (V.str x = V.str y) = decide (x = y) from decide_eq_decide.mpr ⟨fun z => V.str.inj z, fun z => by rw [z]⟩]
  exact .bl _⟩
theorem rl_neS : Rl2 K F rNe (.str x) (.str y) (.bl (!decide (x = y))) := ⟨fun o a b k => by
  obtain rfl := a.inv_str
  obtain rfl := b.inv_str
  refine ⟨rfl, k _ _ _ (.refl o.u) ?_⟩
  rw [show decide (V.str x = V.str y) = decide (x = y) from decide_eq_decide.mpr ⟨fun z => V.str.inj z, fun z => by rw [z]⟩]
  exact .bl _⟩
theorem rl_cat {ds es : List D} (h : ds.length + es.length ≤ 16777216) : Rl2 K F rCat (.lst ds) (.lst es) (.lst (ds ++ es)) := ⟨fun o a b k => by
  obtain ⟨p, xs, rfl, hp, ax⟩ := a.inv_lst
  obtain ⟨q, ys, rfl, hq, ay⟩ := b.inv_lst
  refine ⟨p, q, xs, ys, rfl, rfl, o.u.tup hp fun z => z, o.u.tup hq fun z => z, by rw [Paired.length ax, Paired.length ay]; exact h, fun r hr => ?_⟩
  obtain ⟨s, a⟩ := new_lst o hr (papp ax ay)
  exact k _ _ _ s a⟩
theorem rl_catT {ds es : List D} (h : ds.length + es.length ≤ 16777216) : Rl2 K F (rCatA K) (.tup ds) (.tup es) (.tup (ds ++ es)) := ⟨fun o a b k => by
  obtain ⟨p, xs, rfl, hp, ax⟩ := a.inv_tup
  obtain ⟨q, ys, rfl, hq, ay⟩ := b.inv_tup
  refine ⟨p, q, xs, ys, rfl, rfl, o.u.sqT hp, o.u.sqT hq, by rw [Paired.length ax, Paired.length ay]; exact h, fun e => ?_, fun _ e => ?_, fun _ _ r hr => ?_⟩
  · subst e
    cases ax
    exact k _ _ _ (.refl o.u) b
  · subst e
    cases ay
    rw [List.append_nil] at k
    exact k _ _ _ (.refl o.u) a
  · obtain ⟨s, a⟩ := new_tup o hr (papp ax ay)
    exact k _ _ _ s a⟩
theorem rl_catS (h : x.length + y.length ≤ 16777216) : Rl2 K F (fun x y H Q => ∃ i j, x = .str i ∧ y = .str j ∧ i.length + j.length ≤ sizeLine ∧ Q (.str (i ++ j)) H) (.str x) (.str y) (.str (x ++ y)) := ⟨fun o a b k =>
  ⟨x, y, a.inv_str, b.inv_str, h, k _ _ _ (.refl o.u) (.str _)⟩⟩
theorem at_ats {I : Hp} {xs : List V} {ds : List D} {d : D} (a : Ats K I xs ds) (h : atI ds i = some d) : ∃ v, atI xs i = some v ∧ At K I v d := by
  unfold atI at h ⊢
  rw [Paired.length a]
  cases e : ixN ds.length i with
  | none => rw [e] at h; cases h
  | some j =>
    rw [e] at h
    have h : ds[j]? = some d := h
    have hj := (List.getElem?_eq_some_iff.mp h).1
    have hx : j < xs.length := by rw [Paired.length a]; exact hj
    exact ⟨xs[j], List.getElem?_eq_getElem hx, paired_at a j _ d (List.getElem?_eq_getElem hx) h⟩
theorem rl_ixL (h : atI ds i = some d) : Rl2 K F (rIxL K) (.lst ds) (.int i) d := ⟨fun o a b k => by
  obtain ⟨p, xs, rfl, hp, ax⟩ := a.inv_lst
  obtain ⟨v, hv, av⟩ := at_ats ax h
  exact ⟨p, xs, i, v, rfl, b.inv_int, ofL (o.u.tup hp fun z => z), hv, k _ _ _ (.refl o.u) av⟩⟩
theorem rl_ixT (h : atI ds i = some d) : Rl2 K F (rIxT K) (.tup ds) (.int i) d := ⟨fun o a b k => by
  obtain ⟨p, xs, rfl, hp, ax⟩ := a.inv_tup
  obtain ⟨v, hv, av⟩ := at_ats ax h
  exact ⟨p, xs, i, v, rfl, b.inv_int, o.u.sqT hp, hv, k _ _ _ (.refl o.u) av⟩⟩
theorem rl_ixS {c : Nat} (hl : x.length ≤ 16777216) (h : atI x.cps.toList i = some c) : Rl2 K F rIxS (.str x) (.int i) (.str ⟨#[c]⟩) := ⟨fun o a b k =>
  ⟨x, i, c, a.inv_str, b.inv_int, hl, h, k _ _ _ (.refl o.u) (.str _)⟩⟩
/-- a dict of the module -/
theorem rl_ixK {w : World} {p : Addr} {v : V} (h : KDct K w p x v) (hv : ∀ I, At K I v d) : Rl2 K F (rIxD K w) (.at_ p) (.str x) d := ⟨fun o a b k =>
  ⟨p, x, v, a.inv_at, b.inv_str, h, k _ _ _ (.refl o.u) (hv _)⟩⟩
/-- data that may be looked for -/
def flatD : D → Bool
  | .int _ => true
  | .str _ => true
  | .bl _ => true
  | .non => true
  | _ => false
/-- a text among texts -/
theorem at_strs {I : Hp} {v : V} {ys : List Str} (a : At K I v (.lst (ys.map D.str)) ∨ At K I v (.tup (ys.map D.str))) (F : Fr) {H : Hp} (o : OkF F I H) : ∃ p xs, v = .ref p ∧ (SqL K H p xs ∨ SqT K H p xs) ∧ xs = ys.map V.str := by
  rcases a with a | a
  · obtain ⟨p, xs, rfl, hp, ax⟩ := a.inv_lst
    exact ⟨p, xs, rfl, .inl (ofL (o.u.tup hp fun z => z)), ats_strs ax⟩
  · obtain ⟨p, xs, rfl, hp, ax⟩ := a.inv_tup
    exact ⟨p, xs, rfl, .inr (o.u.sqT hp), ats_strs ax⟩
theorem inV_strs {ys : List Str} : inV (.str x) (ys.map V.str) = decide (x ∈ ys) := by
  cases e : inV (.str x) (ys.map V.str) with
  | true => exact (decide_eq_true (in_strs.mp e)).symm
  | false => exact (decide_eq_false fun z => by rw [in_strs.mpr z] at e; cases e).symm
theorem rl_inL {ys : List Str} : Rl2 K F (rIn K false) (.str x) (.lst (ys.map D.str)) (.bl (decide (x ∈ ys))) := ⟨fun o a b k => by
  obtain ⟨p, xs, rfl, hp, e⟩ := at_strs (.inl b) F o
  obtain rfl := a.inv_str
  refine ⟨p, xs, rfl, hp, rfl, by rw [e]; exact flat_strs _, k _ _ _ (.refl o.u) ?_⟩
  rw [e, inV_strs]
  exact .bl _⟩
theorem rl_ninL {ys : List Str} : Rl2 K F (rIn K true) (.str x) (.lst (ys.map D.str)) (.bl (!decide (x ∈ ys))) := ⟨fun o a b k => by
  obtain ⟨p, xs, rfl, hp, e⟩ := at_strs (.inl b) F o
  obtain rfl := a.inv_str
  refine ⟨p, xs, rfl, hp, rfl, by rw [e]; exact flat_strs _, k _ _ _ (.refl o.u) ?_⟩
  rw [e, inV_strs]
  exact .bl _⟩
theorem rl_inT {ys : List Str} : Rl2 K F (rIn K false) (.str x) (.tup (ys.map D.str)) (.bl (decide (x ∈ ys))) := ⟨fun o a b k => by
  obtain ⟨p, xs, rfl, hp, e⟩ := at_strs (.inr b) F o
  obtain rfl := a.inv_str
  refine ⟨p, xs, rfl, hp, rfl, by rw [e]; exact flat_strs _, k _ _ _ (.refl o.u) ?_⟩
  rw [e, inV_strs]
  exact .bl _⟩
theorem rl_ninT {ys : List Str} : Rl2 K F (rIn K true) (.str x) (.tup (ys.map D.str)) (.bl (!decide (x ∈ ys))) := ⟨fun o a b k => by
  obtain ⟨p, xs, rfl, hp, e⟩ := at_strs (.inr b) F o
  obtain rfl := a.inv_str
  refine ⟨p, xs, rfl, hp, rfl, by rw [e]; exact flat_strs _, k _ _ _ (.refl o.u) ?_⟩
  rw [e, inV_strs]
  exact .bl _⟩
/-- a sign in a text -/
theorem rl_inS {c : Nat} {z : Str} : Rl2 K F rInS (.str ⟨#[c]⟩) (.str z) (.bl (decide (c ∈ z.cps.toList))) := ⟨fun o a b k => ⟨c, z, a.inv_str, b.inv_str, k _ _ _ (.refl o.u) (.bl _)⟩⟩
theorem rl_ninS {c : Nat} {z : Str} : Rl2 K F rNotInS (.str ⟨#[c]⟩) (.str z) (.bl (!decide (c ∈ z.cps.toList))) := ⟨fun o a b k => ⟨c, z, a.inv_str, b.inv_str, k _ _ _ (.refl o.u) (.bl _)⟩⟩
/-- is None, is not None -/
def isNonD : D → Bool
  | .non => true
  | _ => false
theorem at_isNon {I : Hp} {v : V} (a : At K I v d) : decide (v = .non) = isNonD d := by
  cases a <;> first | rfl | exact decide_eq_false fun z => nomatch z
theorem rl_isN : Rl2 K F (fun x y H Q => y = .non ∧ Q (.bl (decide (x = .non))) H) d .non (.bl (isNonD d)) := ⟨fun o a b k => ⟨b.inv_non, k _ _ _ (.refl o.u) (by rw [at_isNon a]; exact .bl _)⟩⟩
theorem rl_notN : Rl2 K F (fun x y H Q => y = .non ∧ Q (.bl (!decide (x = .non))) H) d .non (.bl (!isNonD d)) := ⟨fun o a b k => ⟨b.inv_non, k _ _ _ (.refl o.u) (by rw [at_isNon a]; exact .bl _)⟩⟩
/-! slices -/
def cutD (xs : List D) (lo hi : Option Int) : List D := (xs.drop (HT.sIx xs.length 0 lo)).take (HT.sIx xs.length xs.length hi - HT.sIx xs.length 0 lo)
theorem pdrop {α β : Type} {F : α → β → Prop} : ∀ {xs : List α} {ys : List β}, Paired F xs ys → ∀ n, Paired F (xs.drop n) (ys.drop n)
  | _, _, .nil, n => by simp; exact .nil
  | _, _, .cons r t, 0 => .cons r t
  | _, _, .cons r t, n + 1 => pdrop t n
theorem ats_cut {I : Hp} {xs : List V} (a : Ats K I xs ds) (lo hi : Option Int) : Ats K I (cutV xs lo hi) (cutD ds lo hi) := by
  unfold cutV cutD
  rw [Paired.length a]
  exact ptake (pdrop a _) _
theorem rl_slL {lo hi : Option Int} : RlS K F (rSlL K) (.lst ds) lo hi (.lst (cutD ds lo hi)) := ⟨fun o a k => by
  obtain ⟨p, xs, rfl, hp, ax⟩ := a.inv_lst
  refine ⟨p, xs, rfl, ofL (o.u.tup hp fun z => z), fun q hq => ?_⟩
  obtain ⟨s, a⟩ := new_lst o hq (ats_cut ax lo hi)
  exact k _ _ _ s a⟩
theorem rl_slT {lo hi : Option Int} : RlS K F (rSlA K) (.tup ds) lo hi (.tup (cutD ds lo hi)) := ⟨fun o a k => by
  obtain ⟨p, xs, rfl, hp, ax⟩ := a.inv_tup
  refine ⟨p, xs, rfl, o.u.sqT hp, fun e => ?_, fun _ q hq => ?_⟩
  · have : cutD ds lo hi = ds := by
      have hl := Paired.length ax
      unfold cutD
      rw [← hl, e.1, e.2, List.drop_zero, Nat.sub_zero, hl]
      exact List.take_length
    rw [this] at k
    exact k _ _ _ (.refl o.u) a
  · obtain ⟨s, a⟩ := new_tup o hq (ats_cut ax lo hi)
    exact k _ _ _ s a⟩
theorem rl_slS {lo hi : Option Int} (h : x.length ≤ 16777216) : RlS K F rSlS (.str x) lo hi (.str (cutS x lo hi)) := ⟨fun o a k => ⟨x, a.inv_str, h, k _ _ _ (.refl o.u) (.str _)⟩⟩
/-! built-in functions -/
theorem rc_len {ds : List D} (h : d = .lst ds ∨ d = .tup ds) : RlC K F (fun xs H Q => ∃ p ys, xs = [.ref p] ∧ (SqL K H p ys ∨ SqT K H p ys) ∧ Q (.int ys.length) H) [d] (.int ds.length) := ⟨fun o a k => by
  cases a with
  | cons a r =>
    cases r
    rcases h with h | h
    · obtain ⟨p, xs, rfl, hp, ax⟩ := (h ▸ a).inv_lst
      exact ⟨p, xs, rfl, .inl (ofL (o.u.tup hp fun z => z)), k _ _ _ (.refl o.u) (by rw [Paired.length ax]; exact .int _)⟩
    · obtain ⟨p, xs, rfl, hp, ax⟩ := (h ▸ a).inv_tup
      exact ⟨p, xs, rfl, .inr (o.u.sqT hp), k _ _ _ (.refl o.u) (by rw [Paired.length ax]; exact .int _)⟩⟩
theorem rc_lenS (h : x.length ≤ 16777216) : RlC K F (fun xs H Q => ∃ z, xs = [.str z] ∧ z.length ≤ sizeLine ∧ Q (.int z.length) H) [.str x] (.int x.length) := ⟨fun o a k => by
  cases a with
  | cons a r =>
    cases r
    exact ⟨x, by rw [a.inv_str], h, k _ _ _ (.refl o.u) (.int _)⟩⟩
theorem rc_abs : RlC K F (fun xs H Q => ∃ i, xs = [.int i] ∧ Q (.int (if i < 0 then -i else i)) H) [.int i] (.int (if i < 0 then -i else i)) := ⟨fun o a k => by
  cases a with
  | cons a r =>
    cases r
    exact ⟨i, by rw [a.inv_int], k _ _ _ (.refl o.u) (.int _)⟩⟩
theorem rc_max : RlC K F (fun xs H Q => ∃ i j, xs = [.int i, .int j] ∧ Q (.int (if j > i then j else i)) H) [.int i, .int j] (.int (if j > i then j else i)) := ⟨fun o a k => by
  cases a with
  | cons a r =>
    cases r with
    | cons b r =>
      cases r
      exact ⟨i, j, by rw [a.inv_int, b.inv_int], k _ _ _ (.refl o.u) (.int _)⟩⟩
theorem rc_min : RlC K F (fun xs H Q => ∃ i j, xs = [.int i, .int j] ∧ Q (.int (if j < i then j else i)) H) [.int i, .int j] (.int (if j < i then j else i)) := ⟨fun o a k => by
  cases a with
  | cons a r =>
    cases r with
    | cons b r =>
      cases r
      exact ⟨i, j, by rw [a.inv_int, b.inv_int], k _ _ _ (.refl o.u) (.int _)⟩⟩
theorem rc_list {ds : List D} (h : d = .lst ds ∨ d = .tup ds) : RlC K F (fun xs H Q => ∃ p ys, xs = [.ref p] ∧ (SqL K H p ys ∨ SqT K H p ys) ∧ ∀ l, H l = none → Q (.ref l) (L2.upd H l (.lst ys))) [d] (.lst ds) := ⟨fun o a k => by
  cases a with
  | cons a r =>
    cases r
    rcases h with h | h
    · obtain ⟨p, xs, rfl, hp, ax⟩ := (h ▸ a).inv_lst
      refine ⟨p, xs, rfl, .inl (ofL (o.u.tup hp fun z => z)), fun l hl => ?_⟩
      obtain ⟨s, a⟩ := new_lst o hl ax
      exact k _ _ _ s a
    · obtain ⟨p, xs, rfl, hp, ax⟩ := (h ▸ a).inv_tup
      refine ⟨p, xs, rfl, .inr (o.u.sqT hp), fun l hl => ?_⟩
      obtain ⟨s, a⟩ := new_lst o hl ax
      exact k _ _ _ s a⟩
theorem rc_tupL {ds : List D} : RlC K F (fun xs H Q => ∃ p ys, xs = [.ref p] ∧ ((SqL K H p ys ∧ ∀ l, H l = none → Q (.ref l) (L2.upd H l (.tup ys))) ∨ (SqT K H p ys ∧ Q (.ref p) H))) [.lst ds] (.tup ds) := ⟨fun o a k => by
  cases a with
  | cons a r =>
    cases r
    obtain ⟨p, xs, rfl, hp, ax⟩ := a.inv_lst
    refine ⟨p, xs, rfl, .inl ⟨ofL (o.u.tup hp fun z => z), fun l hl => ?_⟩⟩
    obtain ⟨s, a⟩ := new_tup o hl ax
    exact k _ _ _ s a⟩
theorem rc_all {bs : List Bool} : RlC K F (rAll K) [.lst (bs.map D.bl)] (.bl (bs.all id)) := ⟨fun o a k => by
  cases a with
  | cons a r =>
    cases r
    obtain ⟨p, xs, rfl, hp, ax⟩ := a.inv_lst
    exact ⟨p, bs, rfl, ats_bls ax ▸ ofL (o.u.tup hp fun z => z), k _ _ _ (.refl o.u) (.bl _)⟩⟩
theorem rc_any {bs : List Bool} : RlC K F (rAny K) [.lst (bs.map D.bl)] (.bl (bs.any id)) := ⟨fun o a k => by
  cases a with
  | cons a r =>
    cases r
    obtain ⟨p, xs, rfl, hp, ax⟩ := a.inv_lst
    exact ⟨p, bs, rfl, ats_bls ax ▸ ofL (o.u.tup hp fun z => z), k _ _ _ (.refl o.u) (.bl _)⟩⟩
theorem rc_sum {ns : List Int} : RlC K F (rSum K) [.lst (ns.map D.int)] (.int ns.sum) := ⟨fun o a k => by
  cases a with
  | cons a r =>
    cases r
    obtain ⟨p, xs, rfl, hp, ax⟩ := a.inv_lst
    exact ⟨p, ns, rfl, ats_ints ax ▸ ofL (o.u.tup hp fun z => z), k _ _ _ (.refl o.u) (.int _)⟩⟩
theorem rc_strI (h : i.natAbs.log2 < 1920) : RlC K F (fun xs H Q => ∃ i, xs = [.int i] ∧ i.natAbs.log2 < 1920 ∧ Q (.str (toString i)) H) [.int i] (.str (toString i)) := ⟨fun o a k => by
  cases a with
  | cons a r =>
    cases r
    exact ⟨i, by rw [a.inv_int], h, k _ _ _ (.refl o.u) (.str _)⟩⟩
/-! methods of texts -/
theorem rm_starts : RlM K F (fun x xs H Q => ∃ a b, x = .str a ∧ xs = [.str b] ∧ Q (.bl (Txt.startswith a b)) H) (.str x) [.str y] (.bl (Txt.startswith x y)) := ⟨fun o a b k => by
  cases b with
  | cons b r =>
    cases r
    exact ⟨x, y, a.inv_str, by rw [b.inv_str], k _ _ _ (.refl o.u) (.bl _)⟩⟩
theorem rm_join {ys : List Str} (h : (ys.map (·.length)).sum + ys.length * x.length ≤ 16777216) (hd : d = .lst (ys.map D.str) ∨ d = .tup (ys.map D.str)) : RlM K F (rJoinN K) (.str x) [d] (.str (PySem.Txt.join x ys)) := ⟨fun o a b k => by
  cases b with
  | cons b r =>
    cases r
    have b' : At K _ _ (.lst (ys.map D.str)) ∨ At K _ _ (.tup (ys.map D.str)) := hd.elim (fun e => .inl (e ▸ b)) fun e => .inr (e ▸ b)
    obtain ⟨p, xs, rfl, hp, e⟩ := at_strs b' F o
    subst e
    exact ⟨x, p, ys, a.inv_str, rfl, hp, h, k _ _ _ (.refl o.u) (.str _)⟩⟩
end
/-! dicts -/
theorem GvE.dget {b : D} {kvs : List (Key × D)} {k : Key} (hd : GvE K F ρ ta (.dK kvs)) (hk : GvE K F ρ tb b) (hb : b = ofV (kV k)) (h : getD kvs k = some d) : GvE K F ρ (tDGet ta tb) d := ⟨fun s kk =>
  hd.run s fun x I1 H1 s1 a1 => hk.run (s.step s1) fun y I2 H2 s2 a2 => by
    obtain ⟨p, ws, rfl, hp, aw⟩ := (a1.mono s2.i).inv_dK
    obtain ⟨v, hv, av⟩ := look_key aw h
    have hy : y = kV k := by
      subst hb
      cases k with
      | inl i => exact a2.inv_int
      | inr z => exact a2.inv_str
    exact ⟨p, v, rfl, .inl ⟨ws, k, ((s.ok.step s1).step s2).u.rd hp, hy, hv.symm⟩, kk v _ _ (s1.trans s2) av⟩⟩
theorem key_at {I : Hp} {y : V} {k : Key} (a : At K I y (ofV (kV k))) : y = kV k := by
  cases k with
  | inl i => exact a.inv_int
  | inr z => exact a.inv_str
theorem GvE.din {kvs : List (Key × D)} {k : Key} (hk : GvE K F ρ tb (ofV (kV k))) (hd : GvE K F ρ ta (.dK kvs)) : GvE K F ρ (tDIn tb ta) (.bl (getD kvs k).isSome) := ⟨fun s kk =>
  hk.run s fun y I1 H1 s1 a1 => hd.run (s.step s1) fun x I2 H2 s2 a2 => by
    obtain ⟨p, ws, rfl, hp, aw⟩ := a2.inv_dK
    refine ⟨p, valV ws k, rfl, .inl ⟨ws, k, ((s.ok.step s1).step s2).u.rd hp, key_at (a1.mono s2.i), rfl⟩, kk _ _ _ (s1.trans s2) ?_⟩
    rw [look_no aw]
    exact .bl _⟩
theorem GvE.dnin {kvs : List (Key × D)} {k : Key} (hk : GvE K F ρ tb (ofV (kV k))) (hd : GvE K F ρ ta (.dK kvs)) : GvE K F ρ (tDNotIn tb ta) (.bl (!(getD kvs k).isSome)) := ⟨fun s kk =>
  hk.run s fun y I1 H1 s1 a1 => hd.run (s.step s1) fun x I2 H2 s2 a2 => by
    obtain ⟨p, ws, rfl, hp, aw⟩ := a2.inv_dK
    refine ⟨p, valV ws k, rfl, .inl ⟨ws, k, ((s.ok.step s1).step s2).u.rd hp, key_at (a1.mono s2.i), rfl⟩, kk _ _ _ (s1.trans s2) ?_⟩
    rw [look_no aw]
    exact .bl _⟩
end
end Own

set_option Elab.async false
set_option maxRecDepth 100000
set_option maxHeartbeats 4000000
set_option linter.all false
/-! Statements, loops, comprehensions and defs by data. -/
namespace Own
open PySem PySem.Spec PyProof.Rows L2
structure Ps where
  nx : List Slot → Prop
  rt : List Slot → D → Prop
  bk : List Slot → Prop
  ct : List Slot → Prop
section
variable (K : PySem.W.Frag) (F : Fr)
structure EndsOk (I : Hp) (P : Ps) (E : Ends) : Prop where
  nx : ∀ {ρ' I' σ' H'}, P.nx ρ' → Ext I I' → Sta K F ρ' I' σ' H' → E.nx σ' H'
  rt : ∀ {ρ' d v I' σ' H'}, P.rt ρ' d → Ext I I' → Sta K F ρ' I' σ' H' → At K I' v d → E.rt v H'
  bk : ∀ {ρ' I' σ' H'}, P.bk ρ' → Ext I I' → Sta K F ρ' I' σ' H' → E.bk σ' H'
  ct : ∀ {ρ' I' σ' H'}, P.ct ρ' → Ext I I' → Sta K F ρ' I' σ' H' → E.ct σ' H'
structure Blk (ρ : List Slot) (t : TS) (P : Ps) : Prop where
  run : ∀ {I H : Hp} {σ : L2.St} {E : Ends}, Sta K F ρ I σ H → EndsOk K F I P E → t E σ H
/-- a target takes data -/
structure GvG (g : TG) (d : D) (ρ ρ' : List Slot) (is : List Nat) : Prop where
  run : ∀ {I H : Hp} {σ : L2.St} {v : V} {Q : L2.St → Hp → Prop}, Sta K F ρ I σ H → At K I v d → (∀ σ', (∀ vs : List Nat, (∀ i ∈ is, i ∈ vs) → wipe σ' vs = wipe σ vs) → Sta K F ρ' I σ' H → Q σ' H) → g v σ H Q
structure GvGs (g : TGs) (ds : List D) (ρ ρ' : List Slot) (is : List Nat) : Prop where
  run : ∀ {I H : Hp} {σ : L2.St} {vs : List V} {Q : L2.St → Hp → Prop}, Sta K F ρ I σ H → Ats K I vs ds → (∀ σ', (∀ vs : List Nat, (∀ i ∈ is, i ∈ vs) → wipe σ' vs = wipe σ vs) → Sta K F ρ' I σ' H → Q σ' H) → g vs σ H Q
/-- what is walked -/
structure GvI (ρ : List Slot) (wi : TI) (ds : List D) : Prop where
  run : ∀ {I H : Hp} {σ : L2.St} {R : It → Hp → Prop}, Sta K F ρ I σ H → (∀ (J : It) (G : Hp → Prop) (Y : Nat → Hp → V → Hp → Prop) I' H', Stp F.L I H I' H' → Walk J ds.length G Y → (∀ I2 H2, Ext I' I2 → OkF F I2 H2 → G H2) →
    (∀ i x I2 H2 H3, i < ds.length → Ext I' I2 → OkF F I2 H2 → Y i H2 x H3 → ∃ d I3, ds[i]? = some d ∧ Stp F.L I2 H2 I3 H3 ∧ At K I3 x d) → R J H') → wi σ H R
end
section
variable {K : PySem.W.Frag} {F : Fr} {ρ ρ1 ρ2 : List Slot} {P : Ps} {I I' : Hp} {E : Ends} {t u tb : TS} {te ta : TE} {d e : D} {ds : List D} {b : Bool} {tt : TT} {g : TG} {gs : TGs} {wi : TI} {is js : List Nat}
theorem EndsOk.mono (h : EndsOk K F I P E) (e : Ext I I') : EndsOk K F I' P E := ⟨fun a x s => h.nx a (ext_trans e x) s, fun a x s => h.rt a (ext_trans e x) s, fun a x s => h.bk a (ext_trans e x) s, fun a x s => h.ct a (ext_trans e x) s⟩
theorem wipe_set {i : Nat} : ∀ {vs : List Nat} {σ : L2.St} {o : Option V}, i ∈ vs → wipe (σ.set i o) vs = wipe σ vs
  | [], _, _, h => absurd h List.not_mem_nil
  | j :: vs, σ, o, h => by
    unfold wipe
    by_cases e : i = j
    · subst e
      by_cases z : i ∈ vs
      · rw [wipe_set z]
      · have : ∀ (vs : List Nat) (σ : L2.St), i ∉ vs → (wipe (σ.set i o) vs).set i none = (wipe σ vs).set i none := by
          intro vs
          induction vs with
          | nil =>
            intro σ _
            unfold wipe
            rw [List.set_set]
          | cons k vs ih =>
            intro σ h
            unfold wipe
            rw [List.set_comm _ _ (fun e : k = i => h (e ▸ List.mem_cons_self)), ih σ (fun z => h (List.mem_cons_of_mem _ z)), List.set_comm _ _ (fun e : i = k => h (e ▸ List.mem_cons_self))]
        exact this vs σ z
    · rcases List.mem_cons.mp h with z | z
      · exact absurd z e
      · rw [wipe_set z]
namespace GvG
theorem name {i : Nat} : GvG K F (gName i) d ρ (ρ.set i (.imm d)) [i] := ⟨fun s a k => k _ (fun vs h => wipe_set (h i List.mem_cons_self)) (s.set a i)⟩
theorem nil : GvGs K F gNil [] ρ ρ [] := ⟨fun s a k => by
  cases a
  exact ⟨rfl, k _ (fun _ _ => rfl) s⟩⟩
theorem cons (h : GvG K F g d ρ ρ1 is) (h2 : GvGs K F gs ds ρ1 ρ2 js) : GvGs K F (gCons g gs) (d :: ds) ρ ρ2 (is ++ js) := ⟨fun s a k => by
  cases a with
  | cons a r => exact ⟨_, _, rfl, h.run s a fun σ' w s' => h2.run s' r fun σ2 w2 s2 => k _ (fun vs z => (w2 vs fun i hi => z i (List.mem_append_right _ hi)).trans (w vs fun i hi => z i (List.mem_append_left _ hi))) s2⟩⟩
theorem tup {n : Nat} (h : GvGs K F gs ds ρ ρ1 is) (hn : ds.length = n) : GvG K F (gTup K n gs) (.tup ds) ρ ρ1 is := ⟨fun s a k => by
  obtain ⟨p, xs, rfl, hp, ax⟩ := a.inv_tup
  exact ⟨p, xs, rfl, s.ok.u.sqT hp, (Paired.length ax).trans hn, h.run s ax k⟩⟩
theorem unl {n : Nat} (h : GvGs K F gs ds ρ ρ1 is) (hn : ds.length = n) : GvG K F (gUnl K n gs) (.lst ds) ρ ρ1 is := ⟨fun s a k => by
  obtain ⟨p, xs, rfl, hp, ax⟩ := a.inv_lst
  exact ⟨p, xs, rfl, ofL (s.ok.u.tup hp fun z => z), (Paired.length ax).trans hn, h.run s ax k⟩⟩
end GvG
/-! ### what a slot has of its own -/
/-- a list that the frame is making -/
def resL (K : PySem.W.Frag) (ds : List D) : Res where
  φ I H v fp := ∃ p xs, v = .ref p ∧ fp = [p] ∧ H p = some (.lst xs) ∧ Ats K I xs ds
  st := by
    rintro I I' H H' v fp ⟨p, xs, rfl, rfl, h, a⟩ e f
    exact ⟨p, xs, rfl, rfl, by rw [f p List.mem_cons_self]; exact h, a.mono e⟩
/-- a dict that the frame is making -/
def resK (K : PySem.W.Frag) (kvs : List (Key × D)) : Res where
  φ I H v fp := ∃ p ws, v = .ref p ∧ fp = [p] ∧ H p = some (.dK ws) ∧ KAts K I ws kvs
  st := by
    rintro I I' H H' v fp ⟨p, xs, rfl, rfl, h, a⟩ e f
    exact ⟨p, xs, rfl, rfl, by rw [f p List.mem_cons_self]; exact h, a.mono e⟩
def resT (K : PySem.W.Frag) (kvs : List (List Key × D)) : Res where
  φ I H v fp := ∃ p ws, v = .ref p ∧ fp = [p] ∧ H p = some (.dT ws) ∧ KAts K I ws kvs
  st := by
    rintro I I' H H' v fp ⟨p, xs, rfl, rfl, h, a⟩ e f
    exact ⟨p, xs, rfl, rfl, by rw [f p List.mem_cons_self]; exact h, a.mono e⟩
/-- an instance that the frame is making -/
def resI (K : PySem.W.Frag) (C x dx : Addr) (fs : List (Str × D)) : Res where
  φ I H v fp := ∃ ws, v = .ref x ∧ fp = [x, dx] ∧ H x = some (.ins C dx ws) ∧ H dx = some (.own x) ∧ KAts K I ws fs
  st := by
    rintro I I' H H' v fp ⟨xs, rfl, rfl, h, h2, a⟩ e f
    exact ⟨xs, rfl, rfl, by rw [f x List.mem_cons_self]; exact h, by rw [f dx (by simp)]; exact h2, a.mono e⟩
/-- the slot i is changed: its own addresses alone, and new ones -/
theorem Sta.put {H H' : Hp} {σ : L2.St} (s : Sta K F ρ I σ H) {i : Nat} {r : Res} (h : ρ[i]? = some (.own r)) :
    ∃ v f, σ[i]? = some (some v) ∧ r.φ I H v f ∧ (∀ q ∈ f, I q = none ∧ H q ≠ none ∧ F.H0 q = none) ∧ f.Nodup ∧
      ∀ (r' : Res) (f' : List Addr) (H' : Hp), (∀ q ∈ f', q ∈ f ∨ H q = none) → f'.Nodup → (∀ q, q ∉ f → q ∉ f' → H' q = H q) → (∀ q ∈ f', H' q ≠ none) → r'.φ I H' v f' → Sta K F (ρ.set i (.own r')) I σ H' := by
  obtain ⟨fp, sl, nd, k⟩ := s.sl
  obtain ⟨v, f, g, h1, h2, h3, h4, h5⟩ := sl.part h
  have nd2 : (f ++ g).Nodup := h3.nodup_iff.mp nd
  have kf : ∀ q ∈ f ++ g, I q = none ∧ F.H0 q = none ∧ H q ≠ none := fun q hq => k q (h3.mem_iff.mpr hq)
  refine ⟨v, f, h1, h2, fun q hq => ⟨(kf q (List.mem_append_left _ hq)).1, (kf q (List.mem_append_left _ hq)).2.2, (kf q (List.mem_append_left _ hq)).2.1⟩, (List.nodup_append.mp nd2).1, fun r' f' H' hf nf he hne hφ => ?_⟩
  have hsame : σ.set i (some v) = σ := by
    have hi := (List.getElem?_eq_some_iff.mp h1).1
    refine List.ext_getElem? fun j => ?_
    by_cases hj : i = j
    · subst hj
      rw [List.getElem?_set_self hi, h1]
    · rw [List.getElem?_set_ne hj]
  have gq : ∀ q ∈ g, q ∉ f ∧ q ∉ f' := fun q hq => by
    have hq2 := kf q (List.mem_append_right _ hq)
    have n1 : q ∉ f := fun z => (List.nodup_append.mp nd2).2.2 q z q hq rfl
    exact ⟨n1, fun z => (hf q z).elim n1 fun z => hq2.2.2 z⟩
  obtain ⟨fp', p', sl'⟩ := h5 I H' r' v f' (Ext.refl' _) (fun q hq => he q (gq q hq).1 (gq q hq).2) hφ
  rw [hsame] at sl'
  -- the addresses that are not the slot's
  have off : ∀ q, H q ≠ none → I q ≠ none ∨ F.H0 q ≠ none → H' q = H q := fun q hq hz => by
    have n1 : q ∉ f := fun z => by
      have := kf q (List.mem_append_left _ z)
      exact hz.elim (fun w => w this.1) fun w => w this.2.1
    exact he q n1 fun z => (hf q z).elim n1 hq
  refine ⟨⟨s.ok.i, fun q o hq => ?_, s.ok.n, fun q o hq => ?_, s.ok.l⟩, fp', sl', ?_, fun q hq => ?_⟩
  · have := s.ok.h q o hq
    rw [off q (by rw [this]; exact fun z => nomatch z) (.inr (by rw [hq]; exact fun z => nomatch z))]
    exact this
  · have := s.ok.u q o hq
    rw [off q (s.ok.u.ne (by rw [hq]; exact fun z => nomatch z)) (.inl (by rw [hq]; exact fun z => nomatch z))]
    exact this
  · refine p'.nodup_iff.mpr (List.nodup_append.mpr ⟨nf, (List.nodup_append.mp nd2).2.1, fun a ha b hb z => ?_⟩)
    subst z
    exact (gq a hb).2 ha
  · rcases List.mem_append.mp (p'.mem_iff.mp hq) with z | z
    · refine ⟨?_, ?_, hne q z⟩
      · rcases hf q z with w | w
        · exact (kf q (List.mem_append_left _ w)).1
        · exact s.ok.u.no w
      · rcases hf q z with w | w
        · exact (kf q (List.mem_append_left _ w)).2.1
        · exact Classical.byContradiction fun y => by
            have := ext_ne s.ok.h y
            exact this w
    · obtain ⟨a1, a2, a3⟩ := kf q (List.mem_append_right _ z)
      exact ⟨a1, a2, by rw [he q (gq q z).1 (gq q z).2]; exact a3⟩
/-- what the slot i has is given up: from now on it never changes -/
theorem Sta.free {H : Hp} {σ : L2.St} (s : Sta K F ρ I σ H) {i : Nat} {r : Res} (h : ρ[i]? = some (.own r)) {J : Hp} {v : V} {f : List Addr} (hv : σ[i]? = some (some v)) (hf : r.φ I H v f)
    (hfI : ∀ q ∈ f, I q = none ∧ F.H0 q = none) (hJ : ∀ q, q ∉ f → J q = I q) (hJf : ∀ q ∈ f, J q = H q) (hu : ∀ (v' : V) (f' : List Addr), r.φ I H v' f' → v' = v → f' = f) (a : At K J v d) : Ext I J ∧ Sta K F (ρ.set i (.imm d)) J σ H := by
  obtain ⟨fp, sl, nd, k⟩ := s.sl
  obtain ⟨v', f0, g, h1, h2, h3, h4, h5⟩ := sl.part h
  rw [hv] at h1
  cases Option.some.inj (Option.some.inj h1)
  have := hu _ _ h2 rfl
  subst this
  have nd2 : (f0 ++ g).Nodup := h3.nodup_iff.mp nd
  have hext : Ext I J := fun q o hq => by
    rw [hJ q (fun z => by rw [(hfI q z).1] at hq; cases hq)]
    exact hq
  have hsame : σ.set i (some v) = σ := by
    have hi := (List.getElem?_eq_some_iff.mp hv).1
    refine List.ext_getElem? fun j => ?_
    by_cases hj : i = j
    · subst hj
      rw [List.getElem?_set_self hi, hv]
    · rw [List.getElem?_set_ne hj]
  have s0 : Slots K J H (ρ.set i .un) σ g := by
    have z := h4 (some v)
    rw [hsame] at z
    exact z.step hext fun _ _ => rfl
  obtain ⟨fp', l, z⟩ := s0.set a i
  rw [hsame, List.set_set] at z
  have kf : ∀ q ∈ f0 ++ g, I q = none ∧ F.H0 q = none ∧ H q ≠ none := fun q hq => k q (h3.mem_iff.mpr hq)
  refine ⟨hext, ⟨ext_trans s.ok.i hext, s.ok.h, fun q h1 h2 => ?_, fun q o hq => ?_, fun q hq => ext_ne hext (s.ok.l q hq)⟩, fp', z, (List.nodup_append.mp nd2).2.1.sublist l, fun q hq => ?_⟩
  · rw [hJ q (fun z => h1 (hfI q z).2)]
    exact s.ok.n q h1 h2
  · by_cases z : q ∈ f0
    · rw [hJf q z] at hq
      exact ⟨fun _ => hq, fun w => absurd (hfI q z).1 (s.ok.l q w)⟩
    · rw [hJ q z] at hq
      exact s.ok.u q o hq
  · have hg := l.subset hq
    obtain ⟨a1, a2, a3⟩ := kf q (List.mem_append_right _ hg)
    refine ⟨?_, a2, a3⟩
    rw [hJ q (fun z => (List.nodup_append.mp nd2).2.2 q z q hg rfl)]
    exact a1
theorem Sta.freeL {H : Hp} {σ : L2.St} (s : Sta K F ρ I σ H) {i : Nat} (h : ρ[i]? = some (.own (resL K ds))) : ∃ J, Ext I J ∧ Sta K F (ρ.set i (.imm (.lst ds))) J σ H := by
  obtain ⟨v, f, h1, ⟨p, xs, rfl, rfl, h2, a⟩, h3, _, _⟩ := s.put (H' := H) h
  have k := h3 p List.mem_cons_self
  have e : Ext I (L2.upd I p (.lst xs)) := Ext.upd k.1
  refine ⟨L2.upd I p (.lst xs), s.free h (v := .ref p) (f := [p]) h1 ⟨p, xs, rfl, rfl, h2, a⟩ (fun q hq => ?_) (fun q hq => upd_ne (by simpa using hq)) (fun q hq => ?_) (fun v' f' z e => ?_) (.lst' upd_same (a.mono e))⟩
  · rw [List.mem_singleton.mp hq]
    exact ⟨k.1, k.2.2⟩
  · rw [List.mem_singleton.mp hq, upd_same, h2]
  · obtain ⟨p', xs', e1, e2, _⟩ := z
    rw [e] at e1
    cases e1
    exact e2
theorem Sta.freeK {H : Hp} {σ : L2.St} {kvs : List (Key × D)} (s : Sta K F ρ I σ H) {i : Nat} (h : ρ[i]? = some (.own (resK K kvs))) : ∃ J, Ext I J ∧ Sta K F (ρ.set i (.imm (.dK kvs))) J σ H := by
  obtain ⟨v, f, h1, ⟨p, xs, rfl, rfl, h2, a⟩, h3, _, _⟩ := s.put (H' := H) h
  have k := h3 p List.mem_cons_self
  have e : Ext I (L2.upd I p (.dK xs)) := Ext.upd k.1
  refine ⟨L2.upd I p (.dK xs), s.free h (v := .ref p) (f := [p]) h1 ⟨p, xs, rfl, rfl, h2, a⟩ (fun q hq => ?_) (fun q hq => upd_ne (by simpa using hq)) (fun q hq => ?_) (fun v' f' z e => ?_) (.dK' upd_same (a.mono e))⟩
  · rw [List.mem_singleton.mp hq]
    exact ⟨k.1, k.2.2⟩
  · rw [List.mem_singleton.mp hq, upd_same, h2]
  · obtain ⟨p', xs', e1, e2, _⟩ := z
    rw [e] at e1
    cases e1
    exact e2
/-- the slot i gets a new thing of its own -/
theorem Sta.make {H H' : Hp} {σ : L2.St} (s : Sta K F ρ I σ H) (i : Nat) {r : Res} {v : V} {f : List Addr} (hf : ∀ q ∈ f, H q = none) (nf : f.Nodup) (he : ∀ q, q ∉ f → H' q = H q) (hn : ∀ q ∈ f, H' q ≠ none) (hφ : r.φ I H' v f) : Sta K F (ρ.set i (.own r)) I (σ.set i (some v)) H' := by
  obtain ⟨fp, sl, nd, k⟩ := s.sl
  have off : ∀ q, H q ≠ none → H' q = H q := fun q hq => he q fun z => hq (hf q z)
  have sl' : Slots K I H' ρ σ fp := sl.step (Ext.refl' _) fun q hq => off q (k q hq).2.2
  have main : ∀ {ρ : List Slot} {σ : L2.St} {fp : List Addr}, Slots K I H' ρ σ fp → ∀ i, ∃ fp', Slots K I H' (ρ.set i (.own r)) (σ.set i (some v)) fp' ∧ ∃ g, g.Sublist fp ∧ (fp'.Perm (f ++ g) ∨ fp' = fp) := by
    intro ρ σ fp h
    induction h with
    | nil => exact fun i => ⟨[], .nil, [], .slnil, .inr rfl⟩
    | @un o ρ σ fp h ih =>
      intro i
      cases i with
      | zero => exact ⟨f ++ fp, .own hφ h, fp, List.Sublist.refl _, .inl (List.Perm.refl _)⟩
      | succ i =>
        obtain ⟨fp', z, g, l, p⟩ := ih i
        exact ⟨fp', .un z, g, l, p⟩
    | @imm w d ρ σ fp a h ih =>
      intro i
      cases i with
      | zero => exact ⟨f ++ fp, .own hφ h, fp, List.Sublist.refl _, .inl (List.Perm.refl _)⟩
      | succ i =>
        obtain ⟨fp', z, g, l, p⟩ := ih i
        exact ⟨fp', .imm a z, g, l, p⟩
    | @own w r0 ρ σ f0 fp a h ih =>
      intro i
      cases i with
      | zero => exact ⟨f ++ fp, .own hφ h, fp, List.sublist_append_right _ _, .inl (List.Perm.refl _)⟩
      | succ i =>
        obtain ⟨fp', z, g, l, p⟩ := ih i
        refine ⟨f0 ++ fp', .own a z, f0 ++ g, List.Sublist.append (List.Sublist.refl _) l, p.imp (fun p => ?_) fun p => by rw [p]⟩
        refine (List.Perm.append_left f0 p).trans ?_
        rw [← List.append_assoc, ← List.append_assoc]
        exact List.Perm.append_right g List.perm_append_comm
  obtain ⟨fp', z, g, l, p⟩ := main sl' i
  refine ⟨⟨s.ok.i, fun q o hq => ?_, s.ok.n, fun q o hq => ?_, s.ok.l⟩, fp', z, ?_, fun q hq => ?_⟩
  · have := s.ok.h q o hq
    rw [off q (by rw [this]; exact fun z => nomatch z)]
    exact this
  · rw [off q (s.ok.u.ne (by rw [hq]; exact fun z => nomatch z))]
    exact s.ok.u q o hq
  · rcases p with p | p
    · refine p.nodup_iff.mpr (List.nodup_append.mpr ⟨nf, nd.sublist l, fun a ha b hb z => ?_⟩)
      subst z
      exact (k a (l.subset hb)).2.2 (hf a ha)
    · rw [p]
      exact nd
  · have old : ∀ q ∈ fp, I q = none ∧ F.H0 q = none ∧ H' q ≠ none := fun q hq => by
      obtain ⟨a1, a2, a3⟩ := k q hq
      exact ⟨a1, a2, by rw [off q a3]; exact a3⟩
    rcases p with p | p
    · rcases List.mem_append.mp (p.mem_iff.mp hq) with w | w
      · exact ⟨s.ok.u.no (hf q w), Classical.byContradiction fun y => ext_ne s.ok.h y (hf q w), hn q w⟩
      · exact old q (l.subset w)
    · rw [p] at hq
      exact old q hq
/-! ### statements -/
namespace Blk
theorem seqN {N : List Slot → Prop} (h : Blk K F ρ t { P with nx := N }) (h2 : ∀ ρ', N ρ' → Blk K F ρ' u P) : Blk K F ρ (tSeq t u) P :=
  ⟨fun s e => h.run s ⟨fun n x s' => (h2 _ n).run s' (e.mono x), e.rt, e.bk, e.ct⟩⟩
theorem seq {ρ1 : List Slot} (h : Blk K F ρ t { P with nx := fun x => x = ρ1 }) (h2 : Blk K F ρ1 u P) : Blk K F ρ (tSeq t u) P := seqN h fun _ e => e ▸ h2
theorem nx (h : P.nx ρ) : Blk K F ρ tNext P := ⟨fun s e => e.nx h (Ext.refl' _) s⟩
theorem cont (h : P.ct ρ) : Blk K F ρ tCont P := ⟨fun s e => e.ct h (Ext.refl' _) s⟩
theorem brk (h : P.bk ρ) : Blk K F ρ tBreak P := ⟨fun s e => e.bk h (Ext.refl' _) s⟩
theorem mono {Q : Ps} (h : Blk K F ρ t P) (h1 : ∀ r, P.nx r → Q.nx r) (h2 : ∀ r d, P.rt r d → Q.rt r d) (h3 : ∀ r, P.bk r → Q.bk r) (h4 : ∀ r, P.ct r → Q.ct r) : Blk K F ρ t Q :=
  ⟨fun s e => h.run s ⟨fun n x s => e.nx (h1 _ n) x s, fun n x s => e.rt (h2 _ _ n) x s, fun n x s => e.bk (h3 _ n) x s, fun n x s => e.ct (h4 _ n) x s⟩⟩
theorem asgG (h : GvE K F ρ te d) (hg : GvG K F g d ρ ρ1 is) (k : P.nx ρ1) : Blk K F ρ (tAsg te g) P := ⟨fun s e => h.run s fun v I1 H1 s1 a1 => hg.run (s.step s1) a1 fun σ' _ s' => e.nx k s1.i s'⟩
theorem asg {i : Nat} (h : GvE K F ρ te d) (k : P.nx (ρ.set i (.imm d))) : Blk K F ρ (tAsg te (gName i)) P := asgG h .name k
theorem set_ {i : Nat} (h : GvE K F ρ te d) (k : Blk K F (ρ.set i (.imm d)) u P) : Blk K F ρ (tSeq (tAsg te (gName i)) u) P := seq (asg h rfl) k
theorem setG (h : GvE K F ρ te d) (hg : GvG K F g d ρ ρ1 is) (k : Blk K F ρ1 u P) : Blk K F ρ (tSeq (tAsg te g) u) P := seq (asgG h hg rfl) k
theorem par {i j : Nat} {ta : TA} (h : GvA K F ρ ta [d, e]) (k : P.nx ((ρ.set i (.imm d)).set j (.imm e))) : Blk K F ρ (tPar i j ta) P := ⟨fun s e => h.run s fun vs I1 H1 s1 a1 => by
  cases a1 with
  | cons a r =>
    cases r with
    | cons b r =>
      cases r
      exact ⟨_, _, rfl, e.nx k s1.i (((s.step s1).set a i).set b j)⟩⟩
theorem setP {i j : Nat} {ta : TA} (h : GvA K F ρ ta [d, e]) (k : Blk K F ((ρ.set i (.imm d)).set j (.imm e)) u P) : Blk K F ρ (tSeq (tPar i j ta) u) P := seq (par h rfl) k
theorem ifS (h : GvT K F ρ tt b) (h1 : b = true → Blk K F ρ t P) (h2 : b = false → Blk K F ρ u P) : Blk K F ρ (tIfS tt t u) P := ⟨fun s e => h.run s fun I1 H1 s1 => by
  cases b with
  | true => exact (h1 rfl).run (s.step s1) (e.mono s1.i)
  | false => exact (h2 rfl).run (s.step s1) (e.mono s1.i)⟩
theorem ret (h : GvE K F ρ te d) (k : P.rt ρ d) : Blk K F ρ (tRet te) P := ⟨fun s e => h.run s fun v I1 H1 s1 a1 => e.rt k s1.i (s.step s1) a1⟩
theorem retN (k : P.rt ρ .non) : Blk K F ρ tRetN P := ⟨fun s e => e.rt k (Ext.refl' _) s .non⟩
theorem expr (h : GvE K F ρ te d) (k : P.nx ρ) : Blk K F ρ (tDrop te) P := ⟨fun s e => h.run s fun v I1 H1 s1 a1 => e.nx k s1.i (s.step s1)⟩
theorem un (i : Nat) (h : Blk K F (ρ.set i .un) t P) : Blk K F ρ t P := ⟨fun {I H σ E} s e => by
  have z := s.drop (σ.getD i none) i
  have hs : σ.set i (σ.getD i none) = σ := by
    refine List.ext_getElem? fun j => ?_
    by_cases hj : i = j
    · subst hj
      by_cases hi : i < σ.length
      · rw [List.getElem?_set_self hi]; simp [hi]
      · rw [List.getElem?_eq_none_iff.mpr (by rw [List.length_set]; omega), List.getElem?_eq_none_iff.mpr (by omega)]
    · rw [List.getElem?_set_ne hj]
  rw [hs] at z
  exact h.run z e⟩
theorem freeL {i : Nat} (h : ρ[i]? = some (.own (resL K ds))) (k : Blk K F (ρ.set i (.imm (.lst ds))) t P) : Blk K F ρ t P := ⟨fun s e => by
  obtain ⟨J, x, z⟩ := s.freeL h
  exact k.run z (e.mono x)⟩
theorem freeK {i : Nat} {kvs : List (Key × D)} (h : ρ[i]? = some (.own (resK K kvs))) (k : Blk K F (ρ.set i (.imm (.dK kvs))) t P) : Blk K F ρ t P := ⟨fun s e => by
  obtain ⟨J, x, z⟩ := s.freeK h
  exact k.run z (e.mono x)⟩
/-- x = [..], a list that will be changed -/
theorem newL {i : Nat} {ta : TA} (h : GvA K F ρ ta ds) (hl : ds.length ≤ 16777216) (k : P.nx (ρ.set i (.own (resL K ds)))) : Blk K F ρ (tAsg (tLst ta) (gName i)) P := ⟨fun s e => h.run s fun xs I1 H1 s1 a1 => ⟨by rw [Paired.length a1]; exact hl, fun p hp =>
  e.nx k s1.i ((s.step s1).make i (f := [p]) (fun q hq => by rw [List.mem_singleton.mp hq]; exact hp) (by simp) (fun q hq => upd_ne (by simpa using hq)) (fun q hq => by rw [List.mem_singleton.mp hq, upd_same]; exact fun z => nomatch z) ⟨p, xs, rfl, rfl, upd_same, a1⟩)⟩⟩
theorem newD {i : Nat} (k : P.nx (ρ.set i (.own (resK K [])))) : Blk K F ρ (tAsg tDNewK (gName i)) P := ⟨fun s e p hp =>
  e.nx k (Ext.refl' _) (s.make i (f := [p]) (fun q hq => by rw [List.mem_singleton.mp hq]; exact hp) (by simp) (fun q hq => upd_ne (by simpa using hq)) (fun q hq => by rw [List.mem_singleton.mp hq, upd_same]; exact fun z => nomatch z) ⟨p, [], rfl, rfl, upd_same, .nil⟩)⟩
theorem append {i : Nat} (h : ρ[i]? = some (.own (resL K ds))) (he : GvE K F ρ te d) (hl : ds.length < 16777216) (k : P.nx (ρ.set i (.own (resL K (ds ++ [d]))))) : Blk K F ρ (tDrop (tBM K "list" rAppend (tVar i) (tCons te tNil))) P := ⟨fun {I H σ E} s e => by
  obtain ⟨v, f, h1, ⟨p, xs, rfl, rfl, h2, a⟩, h3, nf, _⟩ := s.put (H' := H) h
  refine ⟨.ref p, h1, tyLst h2, he.run s fun y I1 H1 s1 a1 => ?_⟩
  obtain ⟨v', f', h1', ⟨p', xs', e1, rfl, h2', a'⟩, h3', nf', hput⟩ := (s.step s1).put (H' := H) h
  rw [h1] at h1'
  cases Option.some.inj (Option.some.inj h1')
  cases e1
  refine ⟨p, xs', y, rfl, rfl, h2', by rw [Paired.length a']; exact hl, e.nx k s1.i (hput _ [p] _ (fun q hq => .inl hq) nf' (fun q hq _ => upd_ne (by simpa using hq)) (fun q hq => by rw [List.mem_singleton.mp hq, upd_same]; exact fun z => nomatch z) ?_)⟩
  exact ⟨p, xs' ++ [y], rfl, rfl, upd_same, Paired.snoc a' a1⟩⟩
end Blk
/-- what a dict is behind a store -/
def putD {κ : Type} [DecidableEq κ] (kvs : List (κ × D)) (k : κ) (d : D) : List (κ × D) := if (kvs.any fun kv => decide (kv.1 = k)) = true then kvs.map fun kv => if decide (kv.1 = k) = true then (kv.1, d) else kv else kvs ++ [(k, d)]
theorem kats_any {κ : Type} [DecidableEq κ] {I : Hp} {k : κ} : ∀ {ws : List (κ × V)} {kvs : List (κ × D)}, KAts K I ws kvs → (ws.any fun kv => decide (kv.1 = k)) = (kvs.any fun kv => decide (kv.1 = k))
  | _, _, .nil => rfl
  | _, _, .cons r t => by rw [List.any_cons, List.any_cons, r.1, kats_any t]
end
end Own

set_option Elab.async false
set_option maxRecDepth 100000
set_option maxHeartbeats 4000000
set_option linter.all false
/-! Loops, what they walk, comprehensions, dict stores, defs and calls by data. -/
namespace Own
open PySem PySem.Spec PyProof.Rows L2 RZ
section
variable {K : PySem.W.Frag} {F : Fr} {ρ ρ1 ρ2 : List Slot} {P : Ps} {I I' : Hp} {E : Ends} {t u tb : TS} {te ta tv : TE} {d e : D} {ds es : List D} {b : Bool} {tt : TT} {g : TG} {gs : TGs} {wi : TI} {tA : TA}
theorem paired_i {α β : Type} {R : α → β → Prop} {xs : List α} {ys : List β} (p : Paired R xs ys) {i : Nat} {x : α} (h : xs[i]? = some x) : ∃ y, ys[i]? = some y ∧ R x y := by
  have hi := (List.getElem?_eq_some_iff.mp h).1
  have hj : i < ys.length := by rw [← Paired.length p]; exact hi
  exact ⟨ys[i], List.getElem?_eq_getElem hj, paired_at p i x _ h (List.getElem?_eq_getElem hj)⟩
/-! ### what is walked -/
namespace GvI
theorem lst (h : GvE K F ρ te (.lst ds)) : GvI K F ρ (iList K te) ds := ⟨fun s k => h.run s fun v I1 H1 s1 a1 => by
  obtain ⟨p, xs, rfl, hp, ax⟩ := a1.inv_lst
  have hl := Paired.length ax
  refine ⟨p, rfl, ⟨xs, ofL ((s.ok.step s1).u.tup hp fun z => z)⟩, k _ (fun H => SqL K H p xs) (YAt xs) I1 H1 s1 (hl ▸ walk_list) (fun I2 H2 e o => ofL (o.u.tup (e _ _ hp) fun z => z)) fun i x I2 H2 H3 hi e o y => ?_⟩
  obtain ⟨rfl, hx⟩ := y
  obtain ⟨d, hd, ad⟩ := paired_i ax hx
  exact ⟨d, I2, hd, .refl o.u, ad.mono e⟩⟩
theorem tup (h : GvE K F ρ te (.tup ds)) : GvI K F ρ (iTup K te) ds := ⟨fun s k => h.run s fun v I1 H1 s1 a1 => by
  obtain ⟨p, xs, rfl, hp, ax⟩ := a1.inv_tup
  have hl := Paired.length ax
  refine ⟨p, rfl, ⟨xs, (s.ok.step s1).u.sqT hp⟩, k _ (fun H => SqT K H p xs) (YAt xs) I1 H1 s1 (hl ▸ walk_tup) (fun I2 H2 e o => o.u.sqT (SqT.mono hp e)) fun i x I2 H2 H3 hi e o y => ?_⟩
  obtain ⟨rfl, hx⟩ := y
  obtain ⟨d, hd, ad⟩ := paired_i ax hx
  exact ⟨d, I2, hd, .refl o.u, ad.mono e⟩⟩
/-- 0, 1, .. -/
def ups (lo : Int) (n : Nat) : List D := (List.range n).map fun i => .int (lo + (i : Nat))
theorem ups_len {lo : Int} {n : Nat} : (ups lo n).length = n := by simp [ups]
theorem ups_at {lo : Int} {n i : Nat} (h : i < n) : (ups lo n)[i]? = some (.int (lo + (i : Nat))) := by
  unfold ups
  rw [List.getElem?_map, List.getElem?_range h]
  rfl
theorem range1 {j : Int} (h : GvA K F ρ tA [.int j]) (h2 : -(2 ^ 62) ≤ j) (h3 : j < 2 ^ 62) : GvI K F ρ (iRng1 tA) (ups 0 j.toNat) := ⟨fun s k => h.run s fun vs I1 H1 s1 a1 => by
  cases a1 with
  | cons a r =>
    cases r
    refine ⟨j, by rw [a.inv_int], h2, h3, k _ (fun _ => True) (YFn fun i => .int (0 + (i : Nat))) I1 H1 s1 (by rw [ups_len]; exact walk_range) (fun _ _ _ _ => trivial) fun i x I2 H2 H3 hi e o y => ?_⟩
    obtain ⟨rfl, rfl⟩ := y
    rw [ups_len] at hi
    exact ⟨_, I2, ups_at hi, .refl o.u, .int _⟩⟩
theorem range2 {i j : Int} (h : GvA K F ρ tA [.int i, .int j]) (h0 : -(2 ^ 62) ≤ i) (h1 : i < 2 ^ 62) (h2 : -(2 ^ 62) ≤ j) (h3 : j < 2 ^ 62) : GvI K F ρ (iRng2 tA) (ups i (j - i).toNat) := ⟨fun s k => h.run s fun vs I1 H1 s1 a1 => by
  cases a1 with
  | cons a r =>
    cases r with
    | cons b r =>
      cases r
      refine ⟨i, j, by rw [a.inv_int, b.inv_int], ⟨h0, h1, h2, h3⟩, k _ (fun _ => True) (YFn fun m => .int (i + (m : Nat))) I1 H1 s1 (by rw [ups_len]; exact walk_range) (fun _ _ _ _ => trivial) fun m x I2 H2 H3 hi e o y => ?_⟩
      obtain ⟨rfl, rfl⟩ := y
      rw [ups_len] at hi
      exact ⟨_, I2, ups_at hi, .refl o.u, .int _⟩⟩
/-- the signs of a text -/
def signs (z : Str) : List D := z.cps.toList.map fun c => .str ⟨#[c]⟩
theorem str {z : Str} (h : GvE K F ρ te (.str z)) : GvI K F ρ (iStr te) (signs z) := ⟨fun s k => h.run s fun v I1 H1 s1 a1 => by
  have hl : (signs z).length = z.cps.size := by simp [signs]
  refine ⟨z, a1.inv_str, k _ (fun _ => True) _ I1 H1 s1 (by rw [hl]; exact walk_str) (fun _ _ _ _ => trivial) fun i x I2 H2 H3 hi e o y => ?_⟩
  obtain ⟨rfl, c, hc, rfl⟩ := y
  refine ⟨.str ⟨#[c]⟩, I2, ?_, .refl o.u, .str _⟩
  unfold signs
  rw [List.getElem?_map, Array.getElem?_toList, hc]
  rfl⟩
theorem pairI {I2 H2 H3 : Hp} {T : Addr} {x y : V} {dx dy : D} (o : OkF F I2 H2) (hT : H2 T = none) (e : H3 = L2.upd H2 T (.tup [x, y])) (ax : At K I2 x dx) (ay : At K I2 y dy) : ∃ I3, Stp F.L I2 H2 I3 H3 ∧ At K I3 (.ref T) (.tup [dx, dy]) := by
  subst e
  obtain ⟨s, a⟩ := new_tup (K := K) (ds := [dx, dy]) o hT (.cons ax (.cons ay .nil))
  exact ⟨_, s, a⟩
/-- two lists side by side -/
def zipD (ds es : List D) : List D := (ds.zip es).map fun p => .tup [p.1, p.2]
theorem zipD_at {ds es : List D} {i : Nat} {x y : D} (h1 : ds[i]? = some x) (h2 : es[i]? = some y) : (zipD ds es)[i]? = some (.tup [x, y]) := by
  unfold zipD
  rw [List.getElem?_map, List.getElem?_zip_eq_some.mpr (show ds[i]? = some (x, y).1 ∧ es[i]? = some (x, y).2 from ⟨h1, h2⟩)]
  rfl
theorem zipD_len {ds es : List D} : (zipD ds es).length = min ds.length es.length := by simp [zipD]
theorem zip (h : GvA K F ρ tA [.lst ds, .lst es]) : GvI K F ρ (iZip K tA) (zipD ds es) := ⟨fun s k => h.run s fun vs I1 H1 s1 a1 => by
  cases a1 with
  | cons a r =>
    cases r with
    | cons b r =>
      cases r
      obtain ⟨p, xs, rfl, hp, ax⟩ := a.inv_lst
      obtain ⟨q, ys, rfl, hq, ay⟩ := b.inv_lst
      have o1 := s.ok.step s1
      refine ⟨p, q, xs, ys, rfl, ofL (o1.u.tup hp fun z => z), ofL (o1.u.tup hq fun z => z), k _ _ _ I1 H1 s1 (walk_zip (xs := xs) (ys := ys) (by rw [zipD_len, Paired.length ax, Paired.length ay])) (fun I2 H2 e o => ⟨ofL (o.u.tup (e _ _ hp) fun z => z), ofL (o.u.tup (e _ _ hq) fun z => z)⟩) fun i x I2 H2 H3 hi e o y => ?_⟩
      obtain ⟨T, x1, y1, rfl, hT, e3, hx, hy⟩ := y
      obtain ⟨dx, hdx, adx⟩ := paired_i ax hx
      obtain ⟨dy, hdy, ady⟩ := paired_i ay hy
      obtain ⟨I3, s3, a3⟩ := pairI o hT e3 (adx.mono e) (ady.mono e)
      exact ⟨_, I3, zipD_at hdx hdy, s3, a3⟩⟩
theorem walk_zipT {a b : Addr} {xs ys : List V} {n : Nat} (hn : n = min xs.length ys.length) : Walk (ItzT K a b) n (fun H => SqT K H a xs ∧ SqT K H b ys) (YPair (fun i => xs[i]?) (fun i => ys[i]?)) := by
  subst hn
  refine ⟨fun i _ hi q => ?_, fun _ q => ⟨xs, ys, q.1, q.2, by omega⟩, fun i H v H' _ q y => ?_⟩
  · have h1 : i < xs.length := by omega
    have h2 : i < ys.length := by omega
    exact ⟨xs, ys, xs[i], ys[i], q.1, q.2, by simp [h1], by simp [h2]⟩
  · obtain ⟨T, x, z, h1, h2, h3, h4, h5⟩ := y
    exact ⟨T, x, z, h1, h2, h3, h4 xs q.1, h5 ys q.2⟩
/-- zip of two tuples -/
theorem zipT (h : GvA K F ρ tA [.tup ds, .tup es]) : GvI K F ρ (iZipA K tA) (zipD ds es) := ⟨fun s k => h.run s fun vs I1 H1 s1 a1 => by
  cases a1 with
  | cons a r =>
    cases r with
    | cons b r =>
      cases r
      obtain ⟨p, xs, rfl, hp, ax⟩ := a.inv_tup
      obtain ⟨q, ys, rfl, hq, ay⟩ := b.inv_tup
      have o1 := s.ok.step s1
      refine ⟨p, q, xs, ys, rfl, .inr ⟨o1.u.sqT hp, o1.u.sqT hq, k _ _ _ I1 H1 s1 (walk_zipT (xs := xs) (ys := ys) (by rw [zipD_len, Paired.length ax, Paired.length ay])) (fun I2 H2 e o => ⟨o.u.sqT (SqT.mono hp e), o.u.sqT (SqT.mono hq e)⟩) fun i x I2 H2 H3 hi e o y => ?_⟩⟩
      obtain ⟨T, x1, y1, rfl, hT, e3, hx, hy⟩ := y
      obtain ⟨dx, hdx, adx⟩ := paired_i ax hx
      obtain ⟨dy, hdy, ady⟩ := paired_i ay hy
      obtain ⟨I3, s3, a3⟩ := pairI o hT e3 (adx.mono e) (ady.mono e)
      exact ⟨_, I3, zipD_at hdx hdy, s3, a3⟩⟩
theorem enum (h : GvA K F ρ tA [.lst ds]) : GvI K F ρ (iEnum K tA) (zipD (ups 0 ds.length) ds) := ⟨fun s k => h.run s fun vs I1 H1 s1 a1 => by
  cases a1 with
  | cons a r =>
    cases r
    obtain ⟨p, xs, rfl, hp, ax⟩ := a.inv_lst
    have o1 := s.ok.step s1
    have hl := Paired.length ax
    have hn : (zipD (ups 0 ds.length) ds).length = xs.length := by rw [zipD_len, ups_len, hl]; omega
    refine ⟨p, xs, rfl, ofL (o1.u.tup hp fun z => z), k _ _ _ I1 H1 s1 (hn ▸ walk_enum (xs := xs)) (fun I2 H2 e o => ofL (o.u.tup (e _ _ hp) fun z => z)) fun i x I2 H2 H3 hi e o y => ?_⟩
    obtain ⟨T, x1, y1, rfl, hT, e3, hx, hy⟩ := y
    cases Option.some.inj hx
    obtain ⟨dy, hdy, ady⟩ := paired_i ax hy
    obtain ⟨I3, s3, a3⟩ := pairI (dx := .int (0 + (i : Nat))) o hT e3 (by rw [Int.zero_add]; exact .int _) (ady.mono e)
    exact ⟨_, I3, zipD_at (ups_at (by rw [hn] at hi; rw [← hl]; exact hi)) hdy, s3, a3⟩⟩
end GvI
/-! ### loops -/
namespace Blk
theorem for_ (hi : GvI K F ρ wi ds) (Inv : Nat → List Slot → Prop) (h0 : Inv 0 ρ)
    (hs : ∀ i d ρ1, ds[i]? = some d → Inv i ρ1 → ∃ ρ2 is, GvG K F g d ρ1 ρ2 is ∧ Blk K F ρ2 tb { P with nx := Inv (i + 1), ct := Inv (i + 1), bk := P.nx })
    (hd : ∀ ρ1, Inv ds.length ρ1 → P.nx ρ1) : Blk K F ρ (tFor wi g tb) P := ⟨fun {I H σ E} s e => hi.run s fun J G Y I' H' s1 w hG hY => by
  have q0 := s.step s1
  refine for_it w (fun i σ H => ∃ ρ1 I1, Inv i ρ1 ∧ Ext I' I1 ∧ Sta K F ρ1 I1 σ H) ⟨ρ, I', h0, Ext.refl' _, s.step s1⟩ (fun i σ H _ z => ?_) (fun i x σ H H2 hlt z y => ?_) fun σ H z => ?_
  · obtain ⟨ρ1, I1, _, x, z⟩ := z
    exact hG I1 H x z.ok
  · obtain ⟨ρ1, I1, hI, x1, z⟩ := z
    obtain ⟨d, I3, hd, s3, a3⟩ := hY i _ I1 H H2 hlt x1 z.ok y
    obtain ⟨ρ2, _, hg, hb⟩ := hs i d ρ1 hd hI
    have x3 := ext_trans x1 s3.i
    exact hg.run (z.step s3) a3 fun σ' _ z' => hb.run z' ⟨fun n x z => ⟨_, _, n, ext_trans x3 x, z⟩, fun n x o a => e.rt n (ext_trans s1.i (ext_trans x3 x)) o a, fun n x z => e.nx n (ext_trans s1.i (ext_trans x3 x)) z, fun n x z => ⟨_, _, n, ext_trans x3 x, z⟩⟩
  · obtain ⟨ρ1, I1, hI, x1, z⟩ := z
    exact e.nx (hd ρ1 hI) (ext_trans s1.i x1) z⟩
theorem while_ {c : TT} (Inv : Nat → List Slot → Prop) (m0 : Nat) (h0 : Inv m0 ρ)
    (hs : ∀ m ρ1, Inv m ρ1 → ∃ b, GvT K F ρ1 c b ∧ (b = true → Blk K F ρ1 tb { P with nx := fun r => ∃ m', m' < m ∧ Inv m' r, ct := fun r => ∃ m', m' < m ∧ Inv m' r, bk := P.nx }) ∧ (b = false → P.nx ρ1)) : Blk K F ρ (tWhile c tb) P := ⟨fun {I H σ E} s e => by
  refine ⟨fun m σ H => ∃ ρ1 I1, Inv m ρ1 ∧ Ext I I1 ∧ Sta K F ρ1 I1 σ H, ⟨m0, ρ, I, h0, Ext.refl' _, s⟩, ?_⟩
  rintro m σ H ⟨ρ1, I1, hI, x1, z⟩
  obtain ⟨b, hc, ht, hf⟩ := hs m ρ1 hI
  refine hc.run z fun I2 H2 s2 => ?_
  cases b with
  | true =>
    refine ⟨fun σ H => ∃ m', m' < m ∧ ∃ ρ1 I1, Inv m' ρ1 ∧ Ext I I1 ∧ Sta K F ρ1 I1 σ H, fun σ' H' q => q, ?_⟩
    have x3 := ext_trans x1 s2.i
    refine (ht rfl).run (z.step s2) ⟨fun n x z => ?_, fun n x o a => e.rt n (ext_trans x3 x) o a, fun n x z => e.nx n (ext_trans x3 x) z, fun n x z => ?_⟩
    · obtain ⟨m', hm, n⟩ := n
      exact ⟨m', hm, _, _, n, ext_trans x3 x, z⟩
    · obtain ⟨m', hm, n⟩ := n
      exact ⟨m', hm, _, _, n, ext_trans x3 x, z⟩
  | false => exact e.nx (hf rfl) (ext_trans x1 s2.i) (z.step s2)⟩
end Blk
/-! ### comprehensions -/
/-- the slots of a comprehension's own names forgotten -/
def wipeS (ρ : List Slot) : List Nat → List Slot
  | [] => ρ
  | i :: vs => (wipeS ρ vs).set i .un
theorem sta_wipe : ∀ (vs : List Nat) {ρ : List Slot} {H : Hp} {σ : L2.St}, Sta K F ρ I σ H → Sta K F (wipeS ρ vs) I (wipe σ vs) H
  | [], _, _, _, s => s
  | i :: vs, ρ, H, σ, s => by
    have z := (sta_wipe vs s).drop none i
    unfold wipeS wipe
    exact z
theorem wipe_wipe : ∀ (vs ws : List Nat) (σ : L2.St), (∀ i ∈ ws, i ∈ vs) → wipe (wipe σ ws) vs = wipe σ vs
  | vs, [], σ, _ => rfl
  | vs, i :: ws, σ, h => by
    show wipe ((wipe σ ws).set i none) vs = _
    rw [wipe_set (h i List.mem_cons_self)]
    exact wipe_wipe vs ws σ fun j hj => h j (List.mem_cons_of_mem _ hj)
/-- the state of a comprehension's turns: D0 the new object, fp what the slots own -/
structure Cs (K : PySem.W.Frag) (F : Fr) (ρ : List Slot) (σ : L2.St) (fp : List Addr) (D0 : Addr) (I0 H0 I H : Hp) : Prop where
  ok : OkF F I H
  sl : Slots K I H ρ σ fp
  fr : ∀ q ∈ fp, I q = none ∧ F.H0 q = none ∧ H q ≠ none
  i : Ext I0 I
  h : ∀ p, p ≠ D0 → ∀ o, H0 p = some o → H p = some o
  n : ∀ p, H0 p ≠ none → I0 p = none → I p = none
  no : I D0 = none
  yes : H D0 ≠ none
theorem Cs.sta {ρ : List Slot} {σ : L2.St} {fp : List Addr} {D0 : Addr} {I0 H0 I H : Hp} (c : Cs K F ρ σ fp D0 I0 H0 I H) (nd : fp.Nodup) : Sta K F ρ I σ H := ⟨c.ok, fp, c.sl, nd, c.fr⟩
theorem Cs.step {ρ : List Slot} {σ : L2.St} {fp : List Addr} {D0 : Addr} {I0 H0 I H I' H' : Hp} (c : Cs K F ρ σ fp D0 I0 H0 I H) (s : Stp F.L I H I' H') : Cs K F ρ σ fp D0 I0 H0 I' H' ∧ H' D0 = H D0 := by
  have same : ∀ q, H q ≠ none → H' q = H q := fun q hq => by
    cases e : H q with
    | none => exact absurd e hq
    | some o => exact s.h q o e
  refine ⟨⟨c.ok.step s, c.sl.step s.i fun q hq => same q (c.fr q hq).2.2, fun q hq => ?_, ext_trans c.i s.i, fun p hp o h => s.h p o (c.h p hp o h), fun p h1 h2 => ?_, s.n D0 c.yes c.no, ext_ne s.h c.yes⟩, same D0 c.yes⟩
  · obtain ⟨a1, a2, a3⟩ := c.fr q hq
    exact ⟨s.n q a3 a1, a2, ext_ne s.h a3⟩
  · by_cases z : p = D0
    · rw [z]
      exact s.n D0 c.yes c.no
    · refine s.n p ?_ (c.n p h1 h2)
      cases e : H0 p with
      | none => exact absurd e h1
      | some o => rw [c.h p z o e]; exact fun z => nomatch z
theorem Cs.put {ρ : List Slot} {σ : L2.St} {fp : List Addr} {D0 : Addr} {I0 H0 I H : Hp} (c : Cs K F ρ σ fp D0 I0 H0 I H) (hf : D0 ∉ fp) (h0 : F.H0 D0 = none) (o : HO) : Cs K F ρ σ fp D0 I0 H0 I (L2.upd H D0 o) := by
  refine ⟨⟨c.ok.i, fun p u hp => ?_, c.ok.n, fun p u hp => ?_, c.ok.l⟩, c.sl.step (Ext.refl' _) fun q hq => upd_ne fun e => hf (e ▸ hq), fun q hq => ?_, c.i, fun p hp u h => by rw [upd_ne hp]; exact c.h p hp u h, c.n, c.no, by rw [upd_same]; exact fun z => nomatch z⟩
  · rw [upd_ne fun e => by rw [e, h0] at hp; cases hp]
    exact c.ok.h p u hp
  · rw [upd_ne fun e => by rw [e, c.no] at hp; cases hp]
    exact c.ok.u p u hp
  · obtain ⟨a1, a2, a3⟩ := c.fr q hq
    exact ⟨a1, a2, by rw [upd_ne (fun e : q = D0 => hf (e ▸ hq))]; exact a3⟩
theorem Cs.start {ρ : List Slot} {σ : L2.St} {D0 : Addr} {I H : Hp} (s : Sta K F ρ I σ H) (hD : H D0 = none) (o : HO) : ∃ fp, fp.Nodup ∧ D0 ∉ fp ∧ Cs K F ρ σ fp D0 I H I (L2.upd H D0 o) := by
  obtain ⟨fp, sl, nd, k⟩ := s.sl
  have hf : D0 ∉ fp := fun z => (k D0 z).2.2 hD
  have h0 : F.H0 D0 = none := Classical.byContradiction fun z => ext_ne s.ok.h z hD
  have i0 := s.ok.u.no hD
  refine ⟨fp, nd, hf, ⟨s.ok.i, fun p u hp => ?_, s.ok.n, fun p u hp => ?_, s.ok.l⟩, sl.step (Ext.refl' _) fun q hq => upd_ne fun e => hf (e ▸ hq), fun q hq => ?_, Ext.refl' _, fun p hp u h => by rw [upd_ne hp]; exact h, fun _ _ z => z, i0, by rw [upd_same]; exact fun z => nomatch z⟩
  · rw [upd_ne fun e => by rw [e, h0] at hp; cases hp]
    exact s.ok.h p u hp
  · rw [upd_ne fun e => by rw [e, i0] at hp; cases hp]
    exact s.ok.u p u hp
  · obtain ⟨a1, a2, a3⟩ := k q hq
    exact ⟨a1, a2, by rw [upd_ne (fun e : q = D0 => hf (e ▸ hq))]; exact a3⟩
/-- the new object stays as it is -/
theorem Cs.done {ρ : List Slot} {σ : L2.St} {fp : List Addr} {D0 : Addr} {I0 H0 I H : Hp} (c : Cs K F ρ σ fp D0 I0 H0 I H) (hD : H0 D0 = none) {o : HO} (ho : H D0 = some o) : Stp F.L I0 H0 (L2.upd I D0 o) H := by
  refine ⟨ext_trans c.i (Ext.upd c.no), fun p u hp => c.h p (fun e => by rw [e, hD] at hp; cases hp) u hp, fun p h1 h2 => ?_, fun p u hp => ?_⟩
  · rw [upd_ne fun e => h1 (by rw [e]; exact hD)]
    exact c.n p h1 h2
  · by_cases e : p = D0
    · subst e
      rw [upd_same] at hp
      exact ⟨fun _ => by rw [ho]; exact hp, fun z => absurd c.no (c.ok.l _ z)⟩
    · rw [upd_ne e] at hp
      exact c.ok.u p u hp
theorem range_snoc {α : Type} {f : Nat → Option α} {n : Nat} : (List.range (n + 1)).filterMap f = (List.range n).filterMap f ++ (f n).toList := by
  rw [List.range_succ, List.filterMap_append]
  congr 1
/-- [e for .. in .. if ..]: f i is what the turn i adds -/
theorem GvE.lc {vs is : List Nat} (f : Nat → Option D) (hi : GvI K F ρ wi ds) (hl : ds.length ≤ 16777216)
    (hs : ∀ i d, ds[i]? = some d → ∃ ρ2 b, GvG K F g d (wipeS ρ vs) ρ2 is ∧ (∀ j ∈ is, j ∈ vs) ∧ GvT K F ρ2 tt b ∧ (b = true → ∃ e, GvE K F ρ2 te e ∧ f i = some e) ∧ (b = false → f i = none)) :
    GvE K F ρ (tLc wi g tt te vs) (.lst ((List.range ds.length).filterMap f)) := ⟨fun {I H σ Q} s k => hi.run s fun J G Y I' H' s1 w hG hY => fun D0 hD => by
  have s' := sta_wipe vs (s.step s1)
  obtain ⟨fp, nd, hf, c0⟩ := Cs.start s' hD (.lst [])
  have h0 : F.H0 D0 = none := Classical.byContradiction fun z => ext_ne s'.ok.h z hD
  refine lc_it w (fun i H2 => ∃ I2 xs, Cs K F (wipeS ρ vs) (wipe σ vs) fp D0 I' H' I2 H2 ∧ H2 D0 = some (.lst xs) ∧ Ats K I2 xs ((List.range i).filterMap f) ∧ xs.length ≤ i)
    ⟨I', [], c0, upd_same, .nil, Nat.le_refl _⟩ (fun i H2 _ z => ?_) (fun i x H2 H3 hlt z y => ?_) fun H2 z => ?_
  · obtain ⟨I2, _, c, _⟩ := z
    exact hG I2 H2 c.i c.ok
  · obtain ⟨I2, xs, c, hx, ax, hxl⟩ := z
    obtain ⟨d, I3, hd, s3, a3⟩ := hY i _ I2 H2 H3 hlt c.i c.ok y
    obtain ⟨ρ2, b, hg, hj, ht, h1, h2⟩ := hs i d hd
    obtain ⟨c3, e3⟩ := c.step s3
    have ww : wipe (wipe σ vs) vs = wipe σ vs := wipe_wipe vs vs σ fun _ h => h
    refine hg.run (c3.sta nd) a3 fun σ2 hw z2 => ⟨(hw vs hj).trans ww, ht.run z2 fun I4 H4 s4 => ?_⟩
    obtain ⟨c4, e4⟩ := c3.step s4
    have x4 : H4 D0 = some (.lst xs) := by rw [e4, e3]; exact hx
    have a4 := (ax.mono s3.i).mono s4.i
    cases b with
    | false => exact ⟨I4, xs, c4, x4, by rw [range_snoc, h2 rfl]; simpa using a4, by omega⟩
    | true =>
      obtain ⟨e, he, hfe⟩ := h1 rfl
      refine he.run (z2.step s4) fun v I5 H5 s5 a5 => ?_
      obtain ⟨c5, e5⟩ := c4.step s5
      refine ⟨xs, by rw [e5]; exact x4, Nat.lt_of_le_of_lt hxl (Nat.lt_of_lt_of_le hlt hl), I5, xs ++ [v], c5.put hf h0 _, upd_same, ?_, ?_⟩
      · rw [range_snoc, hfe]
        exact Paired.snoc (a4.mono s5.i) a5
      · rw [List.length_append]
        exact Nat.succ_le_succ hxl
  · obtain ⟨I2, xs, c, hx, ax, _⟩ := z
    exact k _ _ _ (s1.trans (c.done hD hx)) (.lst' upd_same (ax.mono (Ext.upd c.no)))⟩
/-- with no test, by the items -/
theorem GvE.lcA {vs is : List Nat} (f : D → D) (hi : GvI K F ρ wi ds) (hl : ds.length ≤ 16777216)
    (hs : ∀ d, d ∈ ds → ∃ ρ2, GvG K F g d (wipeS ρ vs) ρ2 is ∧ (∀ j ∈ is, j ∈ vs) ∧ GvE K F ρ2 te (f d)) (ht : tt = tYes) :
    GvE K F ρ (tLc wi g tt te vs) (.lst (ds.map f)) := by
  subst ht
  refine (GvE.lc (is := is) (fun i => ds[i]?.map f) hi hl fun i d hd => ?_).cast ?_
  · obtain ⟨ρ2, hg, hj, he⟩ := hs d (List.mem_of_getElem? hd)
    exact ⟨ρ2, true, hg, hj, .yes, fun _ => ⟨f d, he, by simp [hd]⟩, fun z => by cases z⟩
  · congr 1
    have : ∀ (ds : List D) (n : Nat), n ≤ ds.length → (List.range n).filterMap (fun i => ds[i]?.map f) = (ds.take n).map f := by
      intro ds n
      induction n with
      | zero => intro _; simp
      | succ n ih =>
        intro h
        rw [range_snoc, ih (by omega), List.take_add_one, List.map_append]
        congr 1
        cases e : ds[n]? <;> rfl
    rw [this ds ds.length (Nat.le_refl _), List.take_length]
/-- with a test, by the items -/
theorem GvE.lcF {vs is : List Nat} (p : D → Bool) (f : D → D) (hi : GvI K F ρ wi ds) (hl : ds.length ≤ 16777216)
    (hs : ∀ d, d ∈ ds → ∃ ρ2, GvG K F g d (wipeS ρ vs) ρ2 is ∧ (∀ j ∈ is, j ∈ vs) ∧ GvT K F ρ2 tt (p d) ∧ (p d = true → GvE K F ρ2 te (f d))) :
    GvE K F ρ (tLc wi g tt te vs) (.lst ((ds.filter p).map f)) := by
  refine (GvE.lc (is := is) (fun i => ds[i]?.bind fun d => if p d then some (f d) else none) hi hl fun i d hd => ?_).cast ?_
  · obtain ⟨ρ2, hg, hj, ht, he⟩ := hs d (List.mem_of_getElem? hd)
    exact ⟨ρ2, p d, hg, hj, ht, fun z => ⟨f d, he z, by simp [hd, z]⟩, fun z => by simp [hd, z]⟩
  · congr 1
    have : ∀ (ds : List D) (n : Nat), n ≤ ds.length → (List.range n).filterMap (fun i => ds[i]?.bind fun d => if p d then some (f d) else none) = ((ds.take n).filter p).map f := by
      intro ds n
      induction n with
      | zero => intro _; simp
      | succ n ih =>
        intro h
        rw [range_snoc, ih (by omega), List.take_add_one, List.filter_append, List.map_append]
        congr 1
        cases e : ds[n]? with
        | none => rfl
        | some d =>
          cases z : p d <;> simp [z]
    rw [this ds ds.length (Nat.le_refl _), List.take_length]
end
end Own

set_option Elab.async false
set_option maxRecDepth 100000
set_option maxHeartbeats 4000000
set_option linter.all false
/-! Stores, displays of dicts, defs and calls by data. -/
namespace Own
open PySem PySem.Spec PyProof.Rows L2 RZ
section
variable {K : PySem.W.Frag} {F : Fr} {ρ ρ1 ρ2 : List Slot} {P : Ps} {I I' : Hp} {E : Ends} {t u tb : TS} {te ta tv tk : TE} {d e : D} {ds es : List D} {b : Bool} {tt : TT} {g : TG} {gs : TGs} {wi : TI} {tA : TA}
theorem kats_put {κ : Type} [DecidableEq κ] {k : κ} {v : V} (a : At K I v d) {ws : List (κ × V)} {kvs : List (κ × D)} (h : KAts K I ws kvs) : KAts K I (putK ws k v) (putD kvs k d) := by
  unfold putK putD
  rw [kats_any h]
  split
  · rename_i hh
    clear hh
    induction h with
    | nil => exact .nil
    | @cons x y xs ys r t ih =>
      obtain ⟨r1, r2⟩ := r
      rw [List.map_cons, List.map_cons]
      refine .cons ?_ ih
      rw [← r1]
      by_cases e : x.1 = k
      · rw [if_pos e, if_pos (decide_eq_true e)]
        exact ⟨rfl, a⟩
      · rw [if_neg e, if_neg (by simpa using e)]
        exact ⟨r1, r2⟩
  · exact papp h (.cons ⟨rfl, a⟩ .nil)
namespace Blk
theorem dput {i : Nat} {kvs : List (Key × D)} {k : Key} (h : ρ[i]? = some (.own (resK K kvs))) (hv : GvE K F ρ tv d) (hk : GvE K F ρ tk (ofV (kV k))) (hl : kvs.length < 16777216) (q : P.nx (ρ.set i (.own (resK K (putD kvs k d))))) : Blk K F ρ (sDPut (tVar i) tk tv) P := ⟨fun {I H σ E} s e => hv.run s fun v I1 H1 s1 a1 => by
  obtain ⟨v0, f, h1, ⟨p, ws, rfl, rfl, h2, a⟩, h3, nf, _⟩ := (s.step s1).put (H' := H) h
  refine ⟨.ref p, h1, hk.run (s.step s1) fun y I2 H2 s2 a2 => ?_⟩
  obtain ⟨v', f', h1', ⟨p', ws', e1, rfl, h2', a'⟩, h3', nf', hput⟩ := ((s.step s1).step s2).put (H' := H) h
  rw [h1] at h1'
  cases Option.some.inj (Option.some.inj h1')
  cases e1
  have hl' : ws'.length < sizeLine := by
    have : ws'.length = kvs.length := Paired.length a'
    rw [this]
    exact hl
  refine ⟨p, _, rfl, .inl ⟨ws', k, h2', key_at a2, hl', rfl⟩, e.nx q (ext_trans s1.i s2.i) (hput _ [p] _ (fun q hq => .inl hq) nf' (fun q hq _ => upd_ne (by simpa using hq)) (fun q hq => by rw [List.mem_singleton.mp hq, upd_same]; exact fun z => nomatch z) ?_)⟩
  exact ⟨p, _, rfl, rfl, upd_same, kats_put (a1.mono s2.i) a'⟩⟩
theorem setI {i : Nat} {k : Int} {j : Nat} {ti : TE} (h : ρ[i]? = some (.own (resL K ds))) (hv : GvE K F ρ tv d) (hk : GvE K F ρ ti (.int k)) (hj : ixN ds.length k = some j) (q : P.nx (ρ.set i (.own (resL K (ds.set j d))))) : Blk K F ρ (tAsg tv (gSub (tVar i) ti rSetL)) P := ⟨fun {I H σ E} s e => hv.run s fun v I1 H1 s1 a1 => by
  obtain ⟨v0, f, h1, ⟨p, xs, rfl, rfl, h2, a⟩, h3, nf, _⟩ := (s.step s1).put (H' := H) h
  refine ⟨.ref p, h1, hk.run (s.step s1) fun y I2 H2 s2 a2 => ?_⟩
  obtain ⟨v', f', h1', ⟨p', xs', e1, rfl, h2', a'⟩, h3', nf', hput⟩ := ((s.step s1).step s2).put (H' := H) h
  rw [h1] at h1'
  cases Option.some.inj (Option.some.inj h1')
  cases e1
  refine ⟨p, xs', k, j, rfl, a2.inv_int, h2', by rw [Paired.length a']; exact hj, e.nx q (ext_trans s1.i s2.i) (hput _ [p] _ (fun q hq => .inl hq) nf' (fun q hq _ => upd_ne (by simpa using hq)) (fun q hq => by rw [List.mem_singleton.mp hq, upd_same]; exact fun z => nomatch z) ?_)⟩
  refine ⟨p, _, rfl, rfl, upd_same, ?_⟩
  have : ∀ {xs : List V} {ds : List D}, Ats K I2 xs ds → ∀ j, Ats K I2 (xs.set j v) (ds.set j d) := by
    intro xs ds h
    induction h with
    | nil => exact fun _ => .nil
    | cons r t ih =>
      intro j
      cases j with
      | zero => exact .cons (a1.mono s2.i) t
      | succ j => exact .cons r (ih j)
  exact this a' j⟩
theorem aug {i : Nat} {x y : Int} {f : Int → Int → Int} (h : ρ[i]? = some (.imm (.int x))) (he : GvE K F ρ te (.int y)) (q : P.nx (ρ.set i (.imm (.int (f x y))))) : Blk K F ρ (tAug i te (ipI f)) P := ⟨fun {I H σ E} s e => by
  obtain ⟨v, hv, a⟩ := s.get h
  refine ⟨v, hv, he.run s fun w I1 H1 s1 a1 => ⟨x, y, a.inv_int, a1.inv_int, e.nx q s1.i ((s.step s1).set (.int _) i)⟩⟩⟩
end Blk
theorem make_slot {H : Hp} {σ : L2.St} (s : Sta K F ρ I σ H) (i : Nat) {p : Addr} {xs : List V} (hp : H p = none) (a : Ats K I xs ds) : Sta K F (ρ.set i (.own (resL K ds))) I (σ.set i (some (.ref p))) (L2.upd H p (.lst xs)) :=
  s.make i (f := [p]) (fun q hq => by rw [List.mem_singleton.mp hq]; exact hp) (by simp) (fun q hq => upd_ne (by simpa using hq)) (fun q hq => by rw [List.mem_singleton.mp hq, upd_same]; exact fun z => nomatch z) ⟨p, xs, rfl, rfl, upd_same, a⟩
/-- objects that nothing speaks of -/
theorem Sta.more {H H' : Hp} {σ : L2.St} (s : Sta K F ρ I σ H) (e : Ext H H') : Sta K F ρ I σ H' := by
  obtain ⟨fp, sl, nd, k⟩ := s.sl
  have same : ∀ q, H q ≠ none → H' q = H q := fun q hq => by
    cases z : H q with
    | none => exact absurd z hq
    | some o => exact e q o z
  refine ⟨⟨s.ok.i, ext_trans s.ok.h e, s.ok.n, fun q o hq => ?_, s.ok.l⟩, fp, sl.step (Ext.refl' _) fun q hq => same q (k q hq).2.2, nd, fun q hq => ?_⟩
  · rw [same q (s.ok.u.ne (by rw [hq]; exact fun z => nomatch z))]
    exact s.ok.u q o hq
  · obtain ⟨a1, a2, a3⟩ := k q hq
    exact ⟨a1, a2, by rw [same q a3]; exact a3⟩
namespace Blk
/-- a, b = [], e -/
theorem newL2 {i j : Nat} {t0 : TA} (h : GvA K F ρ t0 []) (he : GvE K F ρ te d) (hij : i ≠ j) (q : P.nx ((ρ.set i (.own (resL K []))).set j (.imm d))) : Blk K F ρ (tAsg (tTup (tCons (tLst t0) (tCons te tNil))) (gTup K 2 (gCons (gName i) (gCons (gName j) gNil)))) P := ⟨fun {I H σ E} s e => h.run s fun xs I1 H1 s1 a1 => ⟨by rw [Paired.length a1]; decide, fun p hp => by
  cases a1
  have s' := s.step s1
  -- a frame in which the new list is hidden: it is laid behind the slots
  have z1 := s'.more (Ext.upd (o := .lst []) hp)
  refine he.run z1 fun v I2 H2 s2 a2 => ⟨by show 2 ≤ 16777216; decide, fun r hr => ?_⟩
  have hI1 : I1 p = none := s'.ok.u.no hp
  have e2 : H2 p = some (.lst []) := s2.h _ _ upd_same
  have hI2 : I2 p = none := s2.n p (by rw [upd_same]; exact fun z => nomatch z) hI1
  refine ⟨r, [.ref p, v], rfl, ofT upd_same, rfl, .ref p, [v], rfl, v, [], rfl, rfl, e.nx q (ext_trans s1.i s2.i) ?_⟩
  have hF : F.H0 p = none := Classical.byContradiction fun z => ext_ne s'.ok.h z hp
  -- the heap without the new list
  have z2 : Sta K F ρ I2 σ (fun q => if q = p then none else H2 q) := by
    obtain ⟨fp, sl, nd, k⟩ := s'.sl
    have hf : p ∉ fp := fun z => (k p z).2.2 hp
    have old : ∀ q, q ≠ p → H1 q ≠ none → H2 q = H1 q := fun q hq hn => by
      cases w : H1 q with
      | none => exact absurd w hn
      | some o => exact s2.h q o (by rw [upd_ne hq]; exact w)
    have o2 := z1.ok.step s2
    refine ⟨⟨o2.i, fun q o hq => ?_, o2.n, fun q o hq => ?_, o2.l⟩, fp, sl.step s2.i fun q hq => ?_, nd, fun q hq => ?_⟩
    · show (if q = p then none else _) = _
      rw [if_neg fun e => by rw [e, hF] at hq; cases hq]
      exact o2.h q o hq
    · show (q ∉ F.L → (if q = p then none else _) = _) ∧ (q ∈ F.L → isDict o ∧ ∃ ob, (if q = p then none else _) = _)
      rw [if_neg fun e => by rw [e, hI2] at hq; cases hq]
      exact o2.u q o hq
    · have : q ≠ p := fun e => hf (e ▸ hq)
      show (if q = p then none else _) = _
      rw [if_neg this]
      exact old q this (k q hq).2.2
    · have : q ≠ p := fun e => hf (e ▸ hq)
      obtain ⟨b1, b2, b3⟩ := k q hq
      refine ⟨s2.n q (by rw [upd_ne this]; exact b3) b1, b2, ?_⟩
      show (if q = p then none else _) ≠ none
      rw [if_neg this, old q this b3]
      exact b3
  have z3 := make_slot (xs := []) (ds := []) z2 i (p := p) (if_pos rfl) .nil
  have hh : L2.upd (fun q => if q = p then none else H2 q) p (.lst []) = H2 := by
    funext q
    by_cases w : q = p
    · rw [w, upd_same, e2]
    · rw [upd_ne w]
      exact if_neg w
  rw [hh] at z3
  exact (z3.set a2 j).more (Ext.upd hr)⟩⟩
/-- a, b = e, [] in two plain names -/
theorem parL {i j : Nat} {t0 : TA} (he : GvE K F ρ te d) (h : GvA K F ρ t0 []) (q : P.nx ((ρ.set i (.imm d)).set j (.own (resL K [])))) : Blk K F ρ (tPar i j (tCons te (tCons (tLst t0) tNil))) P := ⟨fun {I H σ E} s e => he.run s fun v I1 H1 s1 a1 => h.run (s.step s1) fun xs I2 H2 s2 a2 => ⟨by rw [Paired.length a2]; decide, fun p hp => by
  cases a2
  refine ⟨v, .ref p, rfl, e.nx q (ext_trans s1.i s2.i) ?_⟩
  have z2 := ((s.step s1).step s2).set (a1.mono s2.i) i
  exact make_slot (xs := []) (ds := []) z2 j hp .nil⟩⟩
/-- a, b = e, [] -/
theorem newL2' {i j : Nat} {t0 : TA} (he : GvE K F ρ te d) (h : GvA K F ρ t0 []) (hij : i ≠ j) (q : P.nx ((ρ.set i (.imm d)).set j (.own (resL K [])))) : Blk K F ρ (tAsg (tTup (tCons te (tCons (tLst t0) tNil))) (gTup K 2 (gCons (gName i) (gCons (gName j) gNil)))) P := ⟨fun {I H σ E} s e => he.run s fun v I1 H1 s1 a1 => h.run (s.step s1) fun xs I2 H2 s2 a2 => ⟨by rw [Paired.length a2]; decide, fun p hp => by
  cases a2
  refine ⟨by show 2 ≤ 16777216; decide, fun r hr => ?_⟩
  refine ⟨r, [v, .ref p], rfl, ofT upd_same, rfl, v, [.ref p], rfl, .ref p, [], rfl, rfl, e.nx q (ext_trans s1.i s2.i) ?_⟩
  have z2 := ((s.step s1).step s2).set (a1.mono s2.i) i
  exact (make_slot (xs := []) (ds := []) z2 j hp .nil).more (Ext.upd hr)⟩⟩
end Blk
/-! ### what is the frame's own is looked at -/
def flat (d : D) : Prop := ∀ {K : PySem.W.Frag} {I J : Hp} {v : V}, At K I v d → At K J v d
theorem flat_int {i : Int} : flat (.int i) := fun a => by rw [a.inv_int]; exact .int _
theorem flat_str {i : Str} : flat (.str i) := fun a => by rw [a.inv_str]; exact .str _
theorem flat_bl {i : Bool} : flat (.bl i) := fun a => by rw [a.inv_bl]; exact .bl _
theorem flat_non : flat .non := fun a => by rw [a.inv_non]; exact .non
/-- while an expression is looked at, the list in the slot i may stand as data -/
theorem Sta.lend {H : Hp} {σ : L2.St} (s : Sta K F ρ I σ H) {i : Nat} (h : ρ[i]? = some (.own (resL K ds))) : ∃ p xs, I p = none ∧ H p = some (.lst xs) ∧ Sta K F (ρ.set i (.imm (.lst ds))) (L2.upd I p (.lst xs)) σ H := by
  obtain ⟨v, f, h1, ⟨p, xs, rfl, rfl, h2, a⟩, h3, _, _⟩ := s.put (H' := H) h
  have k := h3 p List.mem_cons_self
  have e : Ext I (L2.upd I p (.lst xs)) := Ext.upd k.1
  refine ⟨p, xs, k.1, h2, (s.free h (v := .ref p) (f := [p]) h1 ⟨p, xs, rfl, rfl, h2, a⟩ (fun q hq => ?_) (fun q hq => upd_ne (by simpa using hq)) (fun q hq => ?_) (fun v' f' z e => ?_) (.lst' upd_same (a.mono e))).2⟩
  · rw [List.mem_singleton.mp hq]
    exact ⟨k.1, k.2.2⟩
  · rw [List.mem_singleton.mp hq, upd_same, h2]
  · obtain ⟨p', xs', e1, e2, _⟩ := z
    rw [e] at e1
    cases e1
    exact e2
theorem Sta.lendK {H : Hp} {σ : L2.St} {kvs : List (Key × D)} (s : Sta K F ρ I σ H) {i : Nat} (h : ρ[i]? = some (.own (resK K kvs))) : ∃ p xs, I p = none ∧ H p = some (.dK xs) ∧ Sta K F (ρ.set i (.imm (.dK kvs))) (L2.upd I p (.dK xs)) σ H := by
  obtain ⟨v, f, h1, ⟨p, xs, rfl, rfl, h2, a⟩, h3, _, _⟩ := s.put (H' := H) h
  have k := h3 p List.mem_cons_self
  have e : Ext I (L2.upd I p (.dK xs)) := Ext.upd k.1
  refine ⟨p, xs, k.1, h2, (s.free h (v := .ref p) (f := [p]) h1 ⟨p, xs, rfl, rfl, h2, a⟩ (fun q hq => ?_) (fun q hq => upd_ne (by simpa using hq)) (fun q hq => ?_) (fun v' f' z e => ?_) (.dK' upd_same (a.mono e))).2⟩
  · rw [List.mem_singleton.mp hq]
    exact ⟨k.1, k.2.2⟩
  · rw [List.mem_singleton.mp hq, upd_same, h2]
  · obtain ⟨p', xs', e1, e2, _⟩ := z
    rw [e] at e1
    cases e1
    exact e2
theorem back {H H' I2 : Hp} {p : Addr} {o : HO} (u : Und F.L I H) (hp : I p = none) (s : Stp F.L (L2.upd I p o) H I2 H') : Stp F.L I H (fun q => if q = p then none else I2 q) H' := by
  refine ⟨fun q x h => ?_, s.h, fun q h1 h2 => ?_, fun q x h => ?_⟩
  · have : q ≠ p := fun e => by rw [e, hp] at h; cases h
    show (if q = p then none else I2 q) = some x
    rw [if_neg this]
    exact s.i q x (by rw [upd_ne this]; exact h)
  · show (if q = p then none else I2 q) = none
    by_cases e : q = p
    · rw [if_pos e]
    · rw [if_neg e]
      exact s.n q h1 (by rw [upd_ne e]; exact h2)
  · have h : (if q = p then none else I2 q) = some x := h
    by_cases e : q = p
    · rw [if_pos e] at h
      cases h
    · rw [if_neg e] at h
      exact s.u q x h
namespace GvE
theorem lend (i : Nat) (h : ρ[i]? = some (.own (resL K ds))) (he : GvE K F (ρ.set i (.imm (.lst ds))) te d) (hd : flat d) : GvE K F ρ te d := ⟨fun s k => by
  obtain ⟨p, xs, hp, hx, z⟩ := s.lend h
  exact he.run z fun v I2 H2 s2 a2 => k v _ _ (back s.ok.u hp s2) (hd a2)⟩
theorem lendK (i : Nat) {kvs : List (Key × D)} (h : ρ[i]? = some (.own (resK K kvs))) (he : GvE K F (ρ.set i (.imm (.dK kvs))) te d) (hd : flat d) : GvE K F ρ te d := ⟨fun s k => by
  obtain ⟨p, xs, hp, hx, z⟩ := s.lendK h
  exact he.run z fun v I2 H2 s2 a2 => k v _ _ (back s.ok.u hp s2) (hd a2)⟩
/-- what a dict of one's own holds at a key -/
theorem ogetK {i : Nat} {kvs : List (Key × D)} {k : Key} (h : ρ[i]? = some (.own (resK K kvs))) (hk : GvE K F ρ tk (ofV (kV k))) (hg : getD kvs k = some d) : GvE K F ρ (tDGet (tVar i) tk) d := ⟨fun {I H σ Q} s kk => by
  obtain ⟨v0, f, h1, ⟨p, ws, rfl, rfl, h2, a⟩, h3, nf, _⟩ := s.put (H' := H) h
  refine ⟨.ref p, h1, hk.run s fun y I2 H2 s2 a2 => ?_⟩
  obtain ⟨v', f', h1', ⟨p', ws', e1, rfl, h2', a'⟩, h3', nf', hput⟩ := (s.step s2).put (H' := H) h
  rw [h1] at h1'
  cases Option.some.inj (Option.some.inj h1')
  cases e1
  obtain ⟨v, hv, av⟩ := look_key a' hg
  exact ⟨p, v, rfl, .inl ⟨ws', k, .inl h2', key_at a2, hv.symm⟩, kk v _ _ s2 av⟩⟩
end GvE
namespace GvT
theorem lend (i : Nat) (h : ρ[i]? = some (.own (resL K ds))) (he : GvT K F (ρ.set i (.imm (.lst ds))) tt b) : GvT K F ρ tt b := ⟨fun s k => by
  obtain ⟨p, xs, hp, hx, z⟩ := s.lend h
  exact he.run z fun I2 H2 s2 => k _ _ (back s.ok.u hp s2)⟩
theorem lendK (i : Nat) {kvs : List (Key × D)} (h : ρ[i]? = some (.own (resK K kvs))) (he : GvT K F (ρ.set i (.imm (.dK kvs))) tt b) : GvT K F ρ tt b := ⟨fun s k => by
  obtain ⟨p, xs, hp, hx, z⟩ := s.lendK h
  exact he.run z fun I2 H2 s2 => k _ _ (back s.ok.u hp s2)⟩
end GvT
/-! ### displays of dicts -/
structure GvP (K : PySem.W.Frag) (F : Fr) (ρ : List Slot) (trs : List (TE × TE)) (kvs : List (Key × D)) : Prop where
  run : ∀ {I H : Hp} {σ : L2.St} {Q : List (V × V) → Hp → Prop}, Sta K F ρ I σ H → (∀ ws I' H', Stp F.L I H I' H' → KAts K I' ws kvs → Q (ws.map fun kv => (kV kv.1, kv.2)) H') → tPairs trs σ H Q
theorem GvP.nil : GvP K F ρ [] [] := ⟨fun s k => k [] _ _ (.refl s.ok.u) .nil⟩
theorem GvP.cons {trs : List (TE × TE)} {kvs : List (Key × D)} {k : Key} (hk : GvE K F ρ tk (ofV (kV k))) (hv : GvE K F ρ tv d) (hr : GvP K F ρ trs kvs) : GvP K F ρ ((tk, tv) :: trs) ((k, d) :: kvs) := ⟨fun s q =>
  hk.run s fun x I1 H1 s1 a1 => hv.run (s.step s1) fun y I2 H2 s2 a2 => hr.run ((s.step s1).step s2) fun ws I3 H3 s3 a3 => by
    have := q ((k, y) :: ws) I3 H3 ((s1.trans s2).trans s3) (.cons ⟨rfl, a2.mono s3.i⟩ a3)
    rw [key_at a1]
    exact this⟩
def mergeD (kvs more : List (Key × D)) : List (Key × D) := more.foldl (fun acc kv => putD acc kv.1 kv.2) kvs
theorem kats_merge : ∀ {more : List (Key × V)} {mo : List (Key × D)} {ws : List (Key × V)} {kvs : List (Key × D)}, KAts K I more mo → KAts K I ws kvs → KAts K I (mergeK ws more) (mergeD kvs mo)
  | _, _, _, _, .nil, h => h
  | x :: xs, y :: ys, ws, kvs, .cons r t, h => by
    obtain ⟨r1, r2⟩ := r
    show KAts K I (mergeK (putK ws x.1 x.2) xs) (mergeD (putD kvs y.1 y.2) ys)
    rw [← r1]
    exact kats_merge t (kats_put r2 h)
theorem GvE.disp {trs : List (TE × TE)} {kvs : List (Key × D)} (h : GvP K F ρ trs kvs) (hl : kvs.length ≤ 15) : GvE K F ρ (tDisp trs) (.dK (mergeD [] kvs)) := ⟨fun {I H σ Q} s k p hp => by
  obtain ⟨fp, nd, hf, c0⟩ := Cs.start s hp (.dK [])
  refine h.run (c0.sta nd) fun ws I2 H2 s2 a2 => ?_
  obtain ⟨c2, e2⟩ := c0.step s2
  have h0 : F.H0 p = none := Classical.byContradiction fun z => ext_ne s.ok.h z hp
  have e2' : H2 p = some (.dK []) := by rw [e2, upd_same]
  have c3 := c2.put hf h0 (.dK (mergeK [] ws))
  refine ⟨e2', ws, rfl, by rw [Paired.length a2]; exact hl, k _ _ _ (c3.done hp upd_same) (.dK' upd_same ((kats_merge a2 .nil).mono (Ext.upd c3.no)))⟩⟩
/-- a new dict that will be changed, by a display -/
theorem Blk.newDisp {i : Nat} {trs : List (TE × TE)} {kvs : List (Key × D)} (h : GvP K F ρ trs kvs) (hl : kvs.length ≤ 15) (q : P.nx (ρ.set i (.own (resK K (mergeD [] kvs))))) : Blk K F ρ (tAsg (tDisp trs) (gName i)) P := ⟨fun {I H σ E} s e p hp => by
  obtain ⟨fp, nd, hf, c0⟩ := Cs.start s hp (.dK [])
  refine h.run (c0.sta nd) fun ws I2 H2 s2 a2 => ?_
  obtain ⟨c2, e2⟩ := c0.step s2
  have h0 : F.H0 p = none := Classical.byContradiction fun z => ext_ne s.ok.h z hp
  have e2' : H2 p = some (.dK []) := by rw [e2, upd_same]
  have c3 := c2.put hf h0 (.dK (mergeK [] ws))
  refine ⟨e2', ws, rfl, by rw [Paired.length a2]; exact hl, e.nx q c3.i ?_⟩
  have z := c3.sta nd
  have hI : L2.upd H2 p (.dK (mergeK [] ws)) = L2.upd (fun q => if q = p then none else L2.upd H2 p (.dK (mergeK [] ws)) q) p (.dK (mergeK [] ws)) := by
    funext q
    by_cases e : q = p
    · rw [e, upd_same, upd_same]
    · rw [upd_ne e, upd_ne e]
      show _ = (if q = p then none else L2.upd H2 p (.dK (mergeK [] ws)) q)
      rw [if_neg e, upd_ne e]
  have s0 : Sta K F ρ I2 σ (fun q => if q = p then none else L2.upd H2 p (.dK (mergeK [] ws)) q) := by
    refine ⟨⟨z.ok.i, fun q o hq => ?_, z.ok.n, fun q o hq => ?_, z.ok.l⟩, fp, c3.sl.step (Ext.refl' _) fun q hq => if_neg (fun e : q = p => hf (e ▸ hq)), nd, fun q hq => ?_⟩
    · show (if q = p then none else _) = _
      rw [if_neg fun e => by rw [e, h0] at hq; cases hq]
      exact z.ok.h q o hq
    · show (q ∉ F.L → (if q = p then none else _) = _) ∧ (q ∈ F.L → isDict o ∧ ∃ ob, (if q = p then none else _) = _)
      rw [if_neg fun e => by rw [e, c3.no] at hq; cases hq]
      exact z.ok.u q o hq
    · obtain ⟨a1, b1, c1⟩ := c3.fr q hq
      refine ⟨a1, b1, ?_⟩
      show (if q = p then none else _) ≠ none
      rw [if_neg (fun e : q = p => hf (e ▸ hq))]
      exact c1
  rw [hI]
  exact s0.make i (f := [p]) (fun q hq => by rw [List.mem_singleton.mp hq]; exact if_pos rfl) (by simp) (fun q hq => upd_ne (by simpa using hq)) (fun q hq => by rw [List.mem_singleton.mp hq, upd_same]; exact fun z => nomatch z) ⟨p, _, rfl, rfl, upd_same, kats_merge a2 .nil⟩⟩
theorem atI_2 {α : Type} {a b c : α} {xs : List α} : atI (a :: b :: c :: xs) 2 = some c := Own.atI_nat (j := 2) rfl
theorem atI_3 {α : Type} {a b c d : α} {xs : List α} : atI (a :: b :: c :: d :: xs) 3 = some d := Own.atI_nat (j := 3) rfl
theorem atI_4 {α : Type} {a b c d e : α} {xs : List α} : atI (a :: b :: c :: d :: e :: xs) 4 = some e := Own.atI_nat (j := 4) rfl
theorem atI_5 {α : Type} {a b c d e f : α} {xs : List α} : atI (a :: b :: c :: d :: e :: f :: xs) 5 = some f := Own.atI_nat (j := 5) rfl
theorem atI_getD {α : Type} {xs : List α} {k : Int} (x0 : α) (h0 : 0 ≤ k) (h1 : k < xs.length) : atI xs k = some (xs.getD k.toNat x0) := by
  obtain ⟨v, e1, e2⟩ := atI_lt h0 h1
  rw [e2, List.getD_eq_getElem?_getD, e1]
  rfl
theorem atI_mapD {α : Type} {f : α → D} {xs : List α} {k : Int} (x0 : α) (h0 : 0 ≤ k) (h1 : k < xs.length) : atI (xs.map f) k = some (f (xs.getD k.toNat x0)) := atI_map (atI_getD x0 h0 h1)
theorem foldl_take {α β : Type} {f : β → α → β} {b : β} {xs : List α} {i : Nat} {x : α} (h : xs[i]? = some x) : (xs.take (i + 1)).foldl f b = f ((xs.take i).foldl f b) x := by
  rw [take_snoc h, List.foldl_append]
  rfl
theorem map_at {α β : Type} {f : α → β} {xs : List α} {i : Nat} {d : β} (h : (xs.map f)[i]? = some d) : ∃ x, xs[i]? = some x ∧ d = f x := by
  rw [List.getElem?_map] at h
  cases e : xs[i]? with
  | none => rw [e] at h; cases h
  | some x => rw [e] at h; exact ⟨x, rfl, (Option.some.inj h).symm⟩
theorem map_at' {α β : Type} {f : α → β} {xs : List α} {i : Nat} {d : β} (h : (xs.map f)[i]? = some d) : ∃ x, xs[i]? = some x ∧ f x = d := by
  obtain ⟨x, h1, h2⟩ := map_at h
  exact ⟨x, h1, h2.symm⟩
theorem ups_get {lo : Int} {n i : Nat} {d : D} (h : (GvI.ups lo n)[i]? = some d) : i < n ∧ d = .int (lo + (i : Nat)) := by
  have hi := (List.getElem?_eq_some_iff.mp h).1
  rw [GvI.ups_len] at hi
  rw [GvI.ups_at hi] at h
  exact ⟨hi, (Option.some.inj h).symm⟩
/-- comprehensions over what is told by a list of anything -/
theorem GvE.lcM {α : Type} {vs is : List Nat} {xs : List α} {h : α → D} (f : α → D) (hi : GvI K F ρ wi (xs.map h)) (hl : xs.length ≤ 16777216)
    (hs : ∀ x, x ∈ xs → ∃ ρ2, GvG K F g (h x) (wipeS ρ vs) ρ2 is ∧ (∀ j ∈ is, j ∈ vs) ∧ GvE K F ρ2 te (f x)) (ht : tt = tYes) :
    GvE K F ρ (tLc wi g tt te vs) (.lst (xs.map f)) := by
  subst ht
  refine (GvE.lc (is := is) (fun i => xs[i]?.map f) hi (by rw [List.length_map]; exact hl) fun i d hd => ?_).cast ?_
  · obtain ⟨x, hx, rfl⟩ := map_at hd
    obtain ⟨ρ2, hg, hj, he⟩ := hs x (List.mem_of_getElem? hx)
    exact ⟨ρ2, true, hg, hj, .yes, fun _ => ⟨f x, he, by simp [hx]⟩, fun z => by cases z⟩
  · congr 1
    rw [List.length_map]
    have : ∀ (n : Nat), n ≤ xs.length → (List.range n).filterMap (fun i => xs[i]?.map f) = (xs.take n).map f := by
      intro n
      induction n with
      | zero => intro _; simp
      | succ n ih =>
        intro h
        rw [range_snoc, ih (by omega), List.take_add_one, List.map_append]
        congr 1
        cases e : xs[n]? <;> rfl
    rw [this xs.length (Nat.le_refl _), List.take_length]
theorem GvE.lcFM {α : Type} {vs is : List Nat} {xs : List α} {h : α → D} (p : α → Bool) (f : α → D) (hi : GvI K F ρ wi (xs.map h)) (hl : xs.length ≤ 16777216)
    (hs : ∀ x, x ∈ xs → ∃ ρ2, GvG K F g (h x) (wipeS ρ vs) ρ2 is ∧ (∀ j ∈ is, j ∈ vs) ∧ GvT K F ρ2 tt (p x) ∧ (p x = true → GvE K F ρ2 te (f x))) :
    GvE K F ρ (tLc wi g tt te vs) (.lst ((xs.filter p).map f)) := by
  refine (GvE.lc (is := is) (fun i => xs[i]?.bind fun d => if p d then some (f d) else none) hi (by rw [List.length_map]; exact hl) fun i d hd => ?_).cast ?_
  · obtain ⟨x, hx, rfl⟩ := map_at hd
    obtain ⟨ρ2, hg, hj, ht, he⟩ := hs x (List.mem_of_getElem? hx)
    exact ⟨ρ2, p x, hg, hj, ht, fun z => ⟨f x, he z, by simp [hx, z]⟩, fun z => by simp [hx, z]⟩
  · congr 1
    rw [List.length_map]
    have : ∀ (n : Nat), n ≤ xs.length → (List.range n).filterMap (fun i => xs[i]?.bind fun d => if p d then some (f d) else none) = ((xs.take n).filter p).map f := by
      intro n
      induction n with
      | zero => intro _; simp
      | succ n ih =>
        intro h
        rw [range_snoc, ih (by omega), List.take_add_one, List.filter_append, List.map_append]
        congr 1
        cases e : xs[n]? with
        | none => rfl
        | some d =>
          cases z : p d <;> simp [z]
    rw [this xs.length (Nat.le_refl _), List.take_length]
/-! ### defs -/
/-- such arguments, such an answer; b: where no dict is locked -/
def spD (K : PySem.W.Frag) (b : Bool) (R : List D → D → Prop) : Sp := fun vs H Q _ => ∃ L I ds d, Und L I H ∧ (∀ q ∈ L, I q ≠ none) ∧ (b = true → L = []) ∧ Ats K I vs ds ∧ R ds d ∧ ∀ v I' H', Stp L I H I' H' → At K I' v d → Q v H'
theorem GvE.call {sb : Bool} {R : List D → D → Prop} {X : XK} (h : GvA K F ρ tA ds) (hR : R ds d) (hb : sb = true → F.L = []) : GvE K F ρ (tCall (spD K sb R) [] X tA) d := ⟨fun s k => h.run s fun vs I1 H1 s1 a1 => by
  have o := s.ok.step s1
  refine ⟨F.L, I1, ds, d, o.u, o.l, hb, by rw [List.append_nil]; exact a1, hR, fun v I' H' s2 a2 => k v I' H' (s1.trans s2) a2⟩⟩
theorem GvE.callD {sb : Bool} {R : List D → D → Prop} {X : XK} {dvs : List V} (h : GvA K F ρ tA ds) (hd : ∀ I, Ats K I dvs es) (hR : R (ds ++ es) d) (hb : sb = true → F.L = []) : GvE K F ρ (tCall (spD K sb R) dvs X tA) d := ⟨fun s k => h.run s fun vs I1 H1 s1 a1 => by
  have o := s.ok.step s1
  refine ⟨F.L, I1, ds ++ es, d, o.u, o.l, hb, papp a1 (hd I1), hR, fun v I' H' s2 a2 => k v I' H' (s1.trans s2) a2⟩⟩
theorem look_none {I : Hp} {m : Str} : ∀ {ws : List (Str × V)} {fs : List (Str × D)}, KAts K I ws fs → fs.lookup m = none → ws.lookup m = none
  | _, _, .nil, _ => rfl
  | x :: xs, y :: ys, .cons r t, h => by
    obtain ⟨x1, x2⟩ := x
    obtain ⟨y1, y2⟩ := y
    obtain ⟨r1, r2⟩ := r
    have r1 : x1 = y1 := r1
    subst r1
    rw [List.lookup_cons] at h ⊢
    cases e : m == x1 with
    | true => rw [e] at h; cases h
    | false =>
      rw [e] at h
      exact look_none t h
theorem GvE.meth {sb : Bool} {R : List D → D → Prop} {X : XK} {C : Addr} {m : Str} {fs : List (Str × D)} (ha : GvE K F ρ ta (.ins C fs)) (h : GvA K F ρ tA ds) (hm : fs.lookup m = none) (hR : R (.ins C fs :: ds) d) (hb : sb = true → F.L = []) : GvE K F ρ (tMeth C m (spD K sb R) [] X ta tA) d := ⟨fun s k => ha.run s fun x I1 H1 s1 a1 => by
  obtain ⟨a, dx, ws, rfl, h1, h2, p⟩ := a1.inv_ins
  refine ⟨a, dx, ws, rfl, (s.ok.step s1).u.tup h1 fun z => z, look_none p hm, h.run (s.step s1) fun vs I2 H2 s2 a2 => ?_⟩
  have o := (s.ok.step s1).step s2
  refine ⟨F.L, I2, .ins C fs :: ds, d, o.u, o.l, hb, by rw [List.append_nil]; exact .cons (a1.mono s2.i) a2, hR, fun v I' H' s3 a3 => k v I' H' ((s1.trans s2).trans s3) a3⟩⟩
/-- an __init__: from such arguments such fields -/
def spI (K : PySem.W.Frag) (b : Bool) (C : Addr) (R : List D → List (Str × D) → Prop) : Sp := fun vs H Q _ => ∃ L I x dx vs' ds fs, vs = .ref x :: vs' ∧ H x = some (.ins C dx []) ∧ H dx = some (.own x) ∧ I x = none ∧ I dx = none ∧ dx ≠ x ∧ Und L I H ∧ (∀ q ∈ L, I q ≠ none) ∧ (b = true → L = []) ∧ Ats K I vs' ds ∧ R ds fs ∧
  ∀ I' H' ws, Ext I I' → (∀ p, p ≠ x → p ≠ dx → ∀ o, H p = some o → H' p = some o) → (∀ p, H p ≠ none → I p = none → I' p = none) → Und L I' H' → H' x = some (.ins C dx ws) → H' dx = some (.own x) → KAts K I' ws fs → Q .non H'
theorem GvE.make {sb : Bool} {C : Addr} {R : List D → List (Str × D) → Prop} {X : XK} {fs : List (Str × D)} {dvs : List V} (h : GvA K F ρ tA ds) (hd : ∀ I, Ats K I dvs es) (hR : R (ds ++ es) fs) (hb : sb = true → F.L = []) : GvE K F ρ (tMake C (spI K sb C R) dvs X tA) (.ins C fs) := ⟨fun {I H σ Q} s k => h.run s fun vs I1 H1 s1 a1 => fun x dx hx hdx hne => by
  have o := s.ok.step s1
  have ix := o.u.no hx
  have idx := o.u.no hdx
  refine ⟨F.L, I1, x, dx, vs ++ dvs, ds ++ es, fs, rfl, upd_same, by rw [upd_ne hne, upd_same], ix, idx, hne, fun p u hp => ?_, o.l, hb, papp a1 (hd I1), hR, fun I' H' ws e1 e2 e3 e4 e5 e6 e7 => ⟨rfl, ?_⟩⟩
  · rw [upd_ne (fun e => by rw [e, ix] at hp; cases hp), upd_ne (fun e => by rw [e, idx] at hp; cases hp)]
    exact o.u p u hp
  · have hux : L2.upd (L2.upd H1 dx (.own x)) x (.ins C dx []) x ≠ none := by rw [upd_same]; exact fun z => nomatch z
    have hud : L2.upd (L2.upd H1 dx (.own x)) x (.ins C dx []) dx ≠ none := by rw [upd_ne hne, upd_same]; exact fun z => nomatch z
    have n1 := e3 x hux ix
    have n2 := e3 dx hud idx
    have off : ∀ p, p ≠ x → p ≠ dx → L2.upd (L2.upd H1 dx (.own x)) x (.ins C dx []) p = H1 p := fun p a b => by rw [upd_ne a, upd_ne b]
    have eI : Ext I' (L2.upd (L2.upd I' dx (.own x)) x (.ins C dx ws)) := fun p u hp => by
      rw [upd_ne (fun e => by rw [e, n1] at hp; cases hp), upd_ne (fun e => by rw [e, n2] at hp; cases hp)]
      exact hp
    refine k (.ref x) (L2.upd (L2.upd I' dx (.own x)) x (.ins C dx ws)) H' (s1.trans ⟨ext_trans e1 eI, fun p u hp => ?_, fun p h1 h2 => ?_, fun p u hp => ?_⟩) (.ins' upd_same (by rw [upd_ne hne, upd_same]) (e7.mono eI))
    · have a : p ≠ x := fun e => by rw [e, hx] at hp; cases hp
      have b : p ≠ dx := fun e => by rw [e, hdx] at hp; cases hp
      exact e2 p a b u (by rw [off p a b]; exact hp)
    · have a : p ≠ x := fun e => h1 (by rw [e]; exact hx)
      have b : p ≠ dx := fun e => h1 (by rw [e]; exact hdx)
      rw [upd_ne a, upd_ne b]
      exact e3 p (by rw [off p a b]; exact h1) h2
    · by_cases a : p = x
      · subst a
        rw [upd_same] at hp
        exact ⟨fun _ => by rw [e5]; exact hp, fun z => absurd ix (o.l _ z)⟩
      · by_cases b : p = dx
        · subst b
          rw [upd_ne hne, upd_same] at hp
          exact ⟨fun _ => by rw [e6]; exact hp, fun z => absurd idx (o.l _ z)⟩
        · rw [upd_ne a, upd_ne b] at hp
          exact e4 p u hp⟩
/-- the slots at a def's start -/
def startS (N : List Str) (ds : List D) : List Slot := ds.map .imm ++ List.replicate (N.length - ds.length) .un
def retP (d : D) : Ps := { nx := fun _ => d = .non, rt := fun _ x => x = d, bk := fun _ => False, ct := fun _ => False }
theorem slots_un {H : Hp} : ∀ n, Slots K I H (List.replicate n .un) (List.replicate n none) []
  | 0 => .nil
  | n + 1 => .un (slots_un n)
theorem slots_start {H : Hp} {n : Nat} : ∀ {vs : List V} {ds : List D}, Ats K I vs ds → Slots K I H (ds.map .imm ++ List.replicate n .un) (vs.map some ++ List.replicate n none) []
  | _, _, .nil => slots_un n
  | _, _, .cons a r => .imm a (slots_start r)
theorem enter {N : List Str} {sb : Bool} {R : List D → D → Prop} {vs : List V} {H : Hp} {Q : VK} {X : XK} (hb : ∀ F ds d, R ds d → (sb = true → F.L = []) → Blk K F (startS N ds) t (retP d)) (h : spD K sb R vs H Q X) : t { nx := fun _ H' => Q .non H', rt := Q } (L2.start N vs) H := by
  obtain ⟨L, I, ds, d, u, l, hsb, a, hR, k⟩ := h
  refine (hb ⟨H, I, L⟩ ds d hR hsb).run (I := I) ⟨⟨Ext.refl' _, Ext.refl' _, fun _ _ z => z, u, l⟩, [], ?_, List.nodup_nil, fun q hq => absurd hq List.not_mem_nil⟩ ⟨fun n x s => ?_, fun n x o a => ?_, fun n _ _ => n.elim, fun n _ _ => n.elim⟩
  · unfold startS L2.start
    rw [← Paired.length a]
    exact slots_start a
  · have n : d = .non := n
    subst n
    exact k _ _ _ ⟨s.ok.i, s.ok.h, s.ok.n, s.ok.u⟩ .non
  · have n : _ = d := n
    subst n
    exact k _ _ _ ⟨o.ok.i, o.ok.h, o.ok.n, o.ok.u⟩ a
/-- a def by data -/
theorem okP {Pg : Program} {w : World} {mg : Str → Option Value} {base : Heap} {x qual : Str} {st : Stmt} {f : Addr} {fd : FuncData} {N ps : List Str} {k : Nat} {sb : Bool} {R : List D → D → Prop} (T : Fun K x qual st f fd) (S : FnScope N ps (defScope st)) (hl : ∀ ds d, R ds d → ds.length = ps.length)
    (hb : ∀ (cdv : Value) (A : Around) (outer : List Env) (s : Shared) (H : Hp) (X : XK), Room k (A.deeper (envOfC qual (defScope st) s.heap.objs.size f cdv)) →
      ∃ t, PSs (cxOf CX0 Pg w K mg base N qual (defScope st) f cdv A outer s H X).nox (defBody st) t ∧ ∀ F ds d, R ds d → (sb = true → F.L = []) → Blk K F (startS N ds) t (retP d)) : FnOk Pg w K mg base CX0 (k + 1) f fd ps (spD K sb R) :=
  T.ok S (fun vs H Q X h => by
    obtain ⟨L, I, ds, d, u, l, hsb, a, hR, _⟩ := h
    rw [Paired.length a]
    exact hl ds d hR) fun cdv A outer s H vs Q X hr h => by
    obtain ⟨t, h1, h2⟩ := hb cdv A outer s H X hr
    exact ⟨t, h1, enter h2 h⟩
theorem okPG {Pg : Program} {w : World} {mg : Str → Option Value} {base : Heap} {x qual : Str} {st : Stmt} {f : Addr} {fd : FuncData} {N ps : List Str} {k : Nat} {sb : Bool} {R : List D → D → Prop} (T : Fun K x qual st f fd) (S : FnScope N ps (defScope st)) (hl : ∀ ds d, R ds d → ds.length = ps.length)
    (hb : ∀ (cdv : Value) (A : Around) (outer : List Env) (s : Shared) (H : Hp) (X : XK), A.guards = some [] → Room k (A.deeper (envOfC qual (defScope st) s.heap.objs.size f cdv)) →
      ∃ t, PSs (cxOf CX0 Pg w K mg base N qual (defScope st) f cdv A outer s H X).nox (defBody st) t ∧ ∀ F ds d, R ds d → (sb = true → F.L = []) → Blk K F (startS N ds) t (retP d)) : FnG Pg w K mg base CX0 (k + 1) f fd ps (spD K sb R) :=
  okG T S (fun vs H Q X h => by
    obtain ⟨L, I, ds, d, u, l, hsb, a, hR, _⟩ := h
    rw [Paired.length a]
    exact hl ds d hR) fun cdv A outer s H vs Q X hg hr h => by
    obtain ⟨t, h1, h2⟩ := hb cdv A outer s H X hg hr
    exact ⟨t, h1, enter h2 h⟩
end
end Own

set_option Elab.async false
set_option maxRecDepth 100000
set_option maxHeartbeats 4000000
set_option linter.all false
/-! zip of a text and a tuple; a module's dict asked by `in`. -/
namespace Own
open PySem PySem.Spec PyProof.Rows L2 RZ
def ItzST (K : PySem.W.Frag) (z : Str) (b : Addr) : It :=
  ⟨fun i H => ∃ (ys : List V) (c : Nat) (y : V), SqT K H b ys ∧ z.cps[i]? = some c ∧ ys[i]? = some y,
    fun i H v H' => ∃ T c y, v = .ref T ∧ H T = none ∧ H' = L2.upd H T (.tup [.str ⟨#[c]⟩, y]) ∧ z.cps[i]? = some c ∧ ∀ ys, SqT K H b ys → ys[i]? = some y,
    fun i H => ∃ ys : List V, SqT K H b ys ∧ i ≤ z.cps.size ∧ i ≤ ys.length ∧ (i = z.cps.size ∨ i = ys.length)⟩
theorem turn_zipST {P : Program} {w : World} {K : PySem.W.Frag} {elts : List Expr} {kk : Nat} {tpos : Pos} {b z TI TO i1 i2 : Addr} {x : Str} {t : Tok} (S : ZipSep2 z TI TO i1 i2 [i1] [i2, b]) (hne : b ≠ i2) :
    Turn P w K (.Tuple elts kk tpos) (ItzST K x b) [z, TI, TO, i1, i2] z (fun i h => IsZip h z TI TO .none ∧ IsTupOf2 h TI (.ref i1) (.ref i2) ∧ (∃ x y, IsTupOf2 h TO x y) ∧ h.IsStrIter i1 (strIterType x) x t i ∧ h.IsTupleIter i2 b i) where
  mem := by simp
  obj := fun i h st c hc => by
    obtain ⟨hz, hTI, ⟨x, y, hTO⟩, ⟨o1, e1, _, d1⟩, ⟨o2, e2, _, d2⟩⟩ := st
    have e' : c = z ∨ c = TI ∨ c = TO ∨ c = i1 ∨ c = i2 := by simpa using hc
    rcases e' with q | q | q | q | q
    · rw [q]; exact ⟨_, hz, fun v q => nomatch q⟩
    · rw [q]; exact ⟨_, hTI, fun v q => nomatch q⟩
    · rw [q]; exact ⟨_, hTO, fun v q => nomatch q⟩
    · rw [q]; exact ⟨o1, e1, fun v q => by rw [d1] at q; cases q⟩
    · rw [q]; exact ⟨o2, e2, fun v q => by rw [d2] at q; cases q⟩
  keep := fun i h h' st k => by
    obtain ⟨hz, hTI, ⟨x, y, hTO⟩, ⟨o1, e1, r1⟩, h2⟩ := st
    exact ⟨k z (by simp) _ hz, k TI (by simp) _ hTI, ⟨x, y, k TO (by simp) _ hTO⟩, ⟨o1, k i1 (by simp) o1 e1, r1⟩, h2.at fun o q => k i2 (by simp) o q⟩
  item := by
    intro X hP hw hK hc i pins s σ H E I hf st hg
    subst hP hw hK
    obtain ⟨hz, hTI, ⟨x0, y0, hTO⟩, h1, h2⟩ := st
    obtain ⟨ys, c, y, hqy, hx, hy⟩ := hg
    obtain ⟨its2, rv2, p2, _⟩ := I.tuple hqy
    obtain ⟨u2, hu2, ru2⟩ := rv2.get hy
    have hzl : z < s.heap.objs.size := Heap.lt_size hz
    have hh : X.A.in1.handled = none := I.ok.hd hc
    refine wpAny_pyNext_zipD2_item S (Draws.text hh i1 x t) (Draws.tuple hh i2 b hne its2.toArray) hz hTI hTO h1 ⟨h2, p2⟩ (Array.getElem?_eq_some_iff.mp hx).1 (by
      have := (List.getElem?_eq_some_iff.mp hu2).1
      simpa using this) fun x1 x2 h' tk q1 q2 z' TO' h1' h2' hT hsz hk => ?_
    obtain ⟨c', u, hc', rfl⟩ := q1
    rw [hx] at hc'
    cases hc'
    have hx2 : x2 = u2 := by
      have q2 : its2.toArray[i]? = some x2 := q2
      rw [show its2.toArray[i]? = some u2 by simpa using hu2] at q2
      exact (Option.some.inj q2).symm
    subst hx2
    refine ⟨_, rfl, wpAny_letOwnedTupleGo_zip (s := { s with heap := h', toks := tk }) z' fun h'' z'' sb => ?_⟩
    have hT2 : h''.get? s.heap.objs.size = some { cls := .type "tuple", data := .seq #[.str ⟨#[c]⟩ u, x2] } := (sb.2 _ (Nat.ne_of_gt hzl)).trans hT
    have new : ObjOk X.prog X.w (L2.upd H s.heap.objs.size (.tup [.str ⟨#[c]⟩, y])) h'' s.heap.objs.size (.tup [.str ⟨#[c]⟩, y]) :=
      ⟨by show 2 ≤ sizeLine; decide, [.str ⟨#[c]⟩ u, x2], .cons ⟨u, rfl⟩ (.cons ru2 .nil), ⟨_, hT2, rfl, _, rfl⟩⟩
    have I1 : Inv X pins σ (L2.upd H s.heap.objs.size (.tup [.str ⟨#[c]⟩, y])) { s with heap := h'', toks := tk } :=
      I.turnedNew (t' := tk) (ch := [z, TI, TO, i1, i2]) (fun c o hb q => (sb.2 c (fun q' => hb (by simp [q']))).trans (hk c o (fun q' => hb (by simp [q'])) (fun q' => hb (by simp [q'])) (fun q' => hb (by simp [q'])) (fun q' => hb (by simp [q'])) q)) hf (Nat.le_refl _) new
    obtain ⟨o1, e1, r1⟩ := h1'
    refine ⟨.ref s.heap.objs.size, _, I1, rfl, ⟨_, c, y, rfl, I.hok.fresh (Nat.le_refl _), rfl, hx, fun l hl => by rw [I.tuple_inj hl hqy]; exact hy⟩, ⟨z'', ?_, ⟨.str ⟨#[c]⟩ u, x2, ?_⟩, ⟨o1, ?_, r1⟩, ?_⟩, fun c hcm => ?_⟩
    · exact (sb.2 _ S.TIz).trans (hk _ _ S.TIz S.TITO S.TIi1 S.TIi2 hTI)
    · exact (sb.2 _ S.TOz).trans TO'
    · exact (sb.2 _ S.zi1.symm).trans e1
    · exact h2'.1.at fun o q => (sb.2 _ S.zi2.symm).trans q
    · have hlt : c < s.heap.objs.size := by
        have e' : c = z ∨ c = TI ∨ c = TO ∨ c = i1 ∨ c = i2 := by simpa using hcm
        rcases e' with q | q | q | q | q
        · rw [q]; exact hzl
        · rw [q]; exact Heap.lt_size hTI
        · rw [q]; exact Heap.lt_size hTO
        · rw [q]; obtain ⟨_, e1, _⟩ := h1; exact Heap.lt_size e1
        · rw [q]; obtain ⟨_, e2, _⟩ := h2; exact Heap.lt_size e2
      rw [upd_ne (Nat.ne_of_lt hlt)]
      exact (hf c hcm).1
  done := by
    intro X hP hw hK hc i pins s σ H E I hf st hg
    subst hP hw hK
    obtain ⟨hz, hTI, ⟨x0, y0, hTO⟩, h1, h2⟩ := st
    obtain ⟨ys, hqy, l1, l2, hend⟩ := hg
    obtain ⟨its2, rv2, p2, _⟩ := I.tuple hqy
    have hl := rv2.length
    have hh : X.A.in1.handled = none := I.ok.hd hc
    refine wpAny_pyNext_zipD2_end S (Draws.text hh i1 x t) (Draws.tuple hh i2 b hne its2.toArray) hz hTI hTO h1 ⟨h2, p2⟩ l1 (by simp; omega) (by simp; omega) fun h' tk hk => ⟨rfl, I.turnedL (t' := tk) (ch := [z, TI, TO, i1, i2]) (fun c o hb q =>
      hk c o (fun q' => hb (by simp [q'])) (fun q' => hb (by simp [q'])) (fun q' => hb (by simp [q'])) (fun q' => hb (by simp [q'])) q) hf⟩
  self := fun A i s Q E st h => wpAny_pyIter_zip st.1 h
theorem zne {a b : Nat} (h : a < b ∨ b < a) : (show Addr from a) ≠ (show Addr from b) := fun e => by
  have e : a = b := e
  omega
theorem zsep (n b : Nat) (h : b < n) : ZipSep2 (show Addr from n + 4) (show Addr from n + 2) (show Addr from n + 3) (show Addr from n) (show Addr from n + 1) [(show Addr from n)] [(show Addr from n + 1), (show Addr from b)] where
  TIz := zne (by omega)
  TOz := zne (by omega)
  TITO := zne (by omega)
  TIi1 := zne (by omega)
  mem1 := List.mem_cons_self
  zf1 := fun m => zne (by omega) (List.mem_singleton.mp m)
  Tf1 := fun m => zne (by omega) (List.mem_singleton.mp m)
  TIi2 := zne (by omega)
  mem2 := List.mem_cons_self
  zf2 := fun m => (List.mem_cons.mp m).elim (fun e => zne (by omega) e) fun m => zne (by omega) (List.mem_singleton.mp m)
  Tf2 := fun m => (List.mem_cons.mp m).elim (fun e => zne (by omega) e) fun m => zne (by omega) (List.mem_singleton.mp m)
  sep1_2 := fun m => (List.mem_cons.mp m).elim (fun e => zne (by omega) e) fun m => zne (by omega) (List.mem_singleton.mp m)
  sep2_1 := fun m => zne (by omega) (List.mem_singleton.mp m)
def iZipST (K : PySem.W.Frag) (ta : TA) : TI := fun σ H R => ta σ H fun vs H1 => ∃ z b ys, vs = [.str z, .ref b] ∧ SqT K H1 b ys ∧ R (ItzST K z b) H1
theorem pi_zipST {X : Cx} {e e2 : Expr} {ta : TA} {p pos tpos : Pos} {elts : List Expr} {kk : Nat} (hg : Gl X "zip") (hm : X.mg "zip" = none) (ha : PA X [e, e2] ta)
    (hs : starEach [e, e2] X.env = (false, eval e X.env) :: starEach [e2] X.env := by rfl) (hpl : (backTo pos (starEach [e2] X.env)).any (·.1) = false := by rfl) :
    PI X (.Tuple elts kk tpos) (.Call (.Name "zip" p) [e, e2] [] pos) (iZipST X.K ta) := by
  refine ⟨fun pins s σ H R I h => ?_⟩
  refine Call_ (ld_blt I hg hm PyProof.Rows.boot_zip (PyProof.Rows.callWith_type1 (thn (ha.run pos pins s σ H _ I h) fun us s1 ⟨vs, H1, I1, r1, q1⟩ => ?_) hs hpl))
  obtain ⟨z, b, ys, ex, hqy, q⟩ := q1
  subst ex
  cases r1 with
  | cons r rr =>
    cases rr with
    | cons r' rr =>
      cases rr
      obtain ⟨t, rfl⟩ := r
      cases r'
      have fresh5 : ∀ c, c ∈ [s1.heap.objs.size + 4, s1.heap.objs.size + 2, s1.heap.objs.size + 3, s1.heap.objs.size, s1.heap.objs.size + 1] → FpOk X pins H1 c := fun c hcm => by
        have e' : c = s1.heap.objs.size + 4 ∨ c = s1.heap.objs.size + 2 ∨ c = s1.heap.objs.size + 3 ∨ c = s1.heap.objs.size ∨ c = s1.heap.objs.size + 1 := by simpa using hcm
        have hle : s1.heap.objs.size ≤ c := by
          rcases e' with z | z | z | z | z
          · rw [z]; exact Nat.le_add_right _ _
          · rw [z]; exact Nat.le_add_right _ _
          · rw [z]; exact Nat.le_add_right _ _
          · rw [z]; exact Nat.le_refl _
          · rw [z]; exact Nat.le_add_right _ _
        exact I1.fpOk hle (I1.hok.fresh hle)
      obtain ⟨its2, rv2, p2, _⟩ := I1.tuple hqy
      obtain ⟨o2, ho2, _⟩ := id p2
      have hb := Heap.lt_size ho2
      refine zip_begins2 (begins_text z t) (begins_tuple b its2.toArray) trivial p2 fun h' hz hTI hTO g1 g2 hsz hk => wpAny_pyIter_zip hz ?_
      have I2 : Inv X pins σ H1 { s1 with heap := h' } := I1.kept (t' := s1.toks) hk
      exact ⟨s1.heap.objs.size + 4, [s1.heap.objs.size + 4, s1.heap.objs.size + 2, s1.heap.objs.size + 3, s1.heap.objs.size, s1.heap.objs.size + 1], _, _, H1, rfl, I2, turn_zipST (zsep _ _ hb) (zne (.inl (Nat.lt_succ_of_lt hb))), ⟨hz, hTI, ⟨_, _, hTO⟩, ⟨_, g1, rfl, rfl⟩, ⟨_, g2, rfl, rfl⟩⟩, fresh5, q⟩
theorem walk_zipST {K : PySem.W.Frag} {z : Str} {b : Addr} {ys : List V} {n : Nat} (hn : n = min z.cps.size ys.length) : Walk (ItzST K z b) n (fun H => SqT K H b ys) (YPair (fun i => z.cps[i]?.map fun c => .str ⟨#[c]⟩) (fun i => ys[i]?)) := by
  subst hn
  refine ⟨fun i _ hi q => ?_, fun _ q => ⟨ys, q, by omega, by omega, by omega⟩, fun i H v H' _ q y => ?_⟩
  · have h1 : i < z.cps.size := by omega
    have h2 : i < ys.length := by omega
    exact ⟨ys, z.cps[i], ys[i], q, by simp [h1], by simp [h2]⟩
  · obtain ⟨T, c, y, h1, h2, h3, h4, h5⟩ := y
    exact ⟨T, _, y, h1, h2, h3, by simp [h4], h5 ys q⟩
theorem GvI.zipST {K : PySem.W.Frag} {F : Fr} {ρ : List Slot} {tA : TA} {z : Str} {es : List D} (h : GvA K F ρ tA [.str z, .tup es]) : GvI K F ρ (iZipST K tA) (GvI.zipD (GvI.signs z) es) := ⟨fun s k => h.run s fun vs I1 H1 s1 a1 => by
  cases a1 with
  | cons a r =>
    cases r with
    | cons b r =>
      cases r
      obtain ⟨q, ys, rfl, hq, ay⟩ := b.inv_tup
      have o1 := s.ok.step s1
      refine ⟨z, q, ys, by rw [a.inv_str], o1.u.sqT hq, k _ _ _ I1 H1 s1 (walk_zipST (z := z) (ys := ys) (by rw [GvI.zipD_len, Paired.length ay]; simp [GvI.signs])) (fun I2 H2 e o => o.u.sqT (SqT.mono hq e)) fun i x I2 H2 H3 hi e o y => ?_⟩
      obtain ⟨T, x1, y1, rfl, hT, e3, hx, hy⟩ := y
      obtain ⟨dy, hdy, ady⟩ := paired_i ay hy
      have hx : z.cps[i]?.map (fun c => V.str ⟨#[c]⟩) = some x1 := hx
      cases hc : z.cps[i]? with
      | none => rw [hc] at hx; cases hx
      | some c =>
        rw [hc] at hx
        cases Option.some.inj hx
        have hs : (GvI.signs z)[i]? = some (.str ⟨#[c]⟩) := by
          unfold GvI.signs
          rw [List.getElem?_map, Array.getElem?_toList, hc]
          rfl
        obtain ⟨I3, s3, a3⟩ := GvI.pairI o hT e3 (At.str (K := K) ⟨#[c]⟩) (ady.mono e)
        exact ⟨_, I3, GvI.zipD_at hs hdy, s3, a3⟩⟩
/-! ### a dict of the module asked by `in` -/
def rInK (K : PySem.W.Frag) (w : World) (neg : Bool) : R2 := fun x y H Q => ∃ p z v, x = .str z ∧ y = .ref p ∧ KDct K w p z v ∧ (p == sysModules) = false ∧ Q (.bl (!neg)) H
section
variable {X : Cx}
theorem op_inKd : OpR X (compareOp .In) (rInK X.K X.w false) := by
  intro pins s σ H x y v u Q I rx ry h
  obtain ⟨p, z, r, rfl, rfl, ⟨es, n, u0, hl, hk, e, ru⟩, hd, q⟩ := h
  obtain rfl : u = Value.ref p := ry
  obtain ⟨t, rfl⟩ := rx
  have hm := PySem.W.mapOf_K (prog := X.prog) (w := X.w) I.kIn hl hk
  refine wpAny_in_of (strKind_is X.prog X.w z t) hd hm ?_
  rw [PySem.W.find_K hl e]
  exact ⟨.bl true, H, I.tok _, rfl, q⟩
theorem op_notInKd : OpR X (compareOp .NotIn) (rInK X.K X.w true) := by
  intro pins s σ H x y v u Q I rx ry h
  obtain ⟨p, z, r, rfl, rfl, ⟨es, n, u0, hl, hk, e, ru⟩, hd, q⟩ := h
  obtain rfl : u = Value.ref p := ry
  obtain ⟨t, rfl⟩ := rx
  have hm := PySem.W.mapOf_K (prog := X.prog) (w := X.w) I.kIn hl hk
  refine wpAny_notIn_of (strKind_is X.prog X.w z t) hd hm ?_
  rw [PySem.W.find_K hl e]
  exact ⟨.bl false, H, I.tok _, rfl, q⟩
end
section
variable {K : PySem.W.Frag} {F : Fr} {w : World} {p : Addr} {x : Str} {v : V}
theorem rl_inKd (h : KDct K w p x v) (hd : (p == sysModules) = false) : Rl2 K F (rInK K w false) (.str x) (.at_ p) (.bl true) := ⟨fun o a b k => ⟨p, x, v, a.inv_str, b.inv_at, h, hd, k _ _ _ (.refl o.u) (.bl _)⟩⟩
theorem rl_ninKd (h : KDct K w p x v) (hd : (p == sysModules) = false) : Rl2 K F (rInK K w true) (.str x) (.at_ p) (.bl false) := ⟨fun o a b k => ⟨p, x, v, a.inv_str, b.inv_at, h, hd, k _ _ _ (.refl o.u) (.bl _)⟩⟩
end
end Own

set_option Elab.async false
set_option maxRecDepth 100000
set_option maxHeartbeats 4000000
set_option linter.all false
/-! fields that an __init__ sets; list(d.items()); more about texts. -/
namespace Own
open PySem PySem.Spec PyProof.Rows L2 RZ
section
variable {K : PySem.W.Frag} {F : Fr} {ρ ρ1 ρ2 : List Slot} {P : Ps} {I I' : Hp} {E : Ends} {t u tb : TS} {te ta tv tk tb' : TE} {d e : D} {ds es : List D} {b : Bool} {tt : TT} {g : TG} {tA : TA}
namespace Blk
theorem ifT (h : GvT K F ρ tt true) (k : Blk K F ρ t P) : Blk K F ρ (tIfS tt t u) P := ifS h (fun _ => k) fun z => by cases z
theorem ifF (h : GvT K F ρ tt false) (k : Blk K F ρ u P) : Blk K F ρ (tIfS tt t u) P := ifS h (fun z => by cases z) fun _ => k
end Blk
theorem GvE.chain {r r' : R2} {d1 d2 d3 : D} {k1 k2 : Bool} {tc : TE} (ha : GvE K F ρ ta d1) (hb : GvE K F ρ tb' d2) (hr : Rl2 K F r d1 d2 (.bl k1)) (hc : k1 = true → GvE K F ρ tc d3) (hr' : Rl2 K F r' d2 d3 (.bl k2)) : GvE K F ρ (tChain r r' ta tb' tc) (.bl (k1 && k2)) := ⟨fun s k =>
  ha.run s fun x I1 H1 s1 a1 => hb.run (s.step s1) fun y I2 H2 s2 a2 => hr.run ((s.ok.step s1).step s2) (a1.mono s2.i) a2 fun v I3 H3 s3 a3 => ⟨k1, a3.inv_bl, by
    cases k1 with
    | true => exact (hc rfl).run (((s.step s1).step s2).step s3) fun w' I4 H4 s4 a4 => hr'.run ((((s.ok.step s1).step s2).step s3).step s4) ((a2.mono s3.i).mono s4.i) a4 fun v I5 H5 s5 a5 => k v I5 H5 ((((s1.trans s2).trans s3).trans s4).trans s5) a5
    | false => exact k _ I3 H3 ((s1.trans s2).trans s3) (.bl _)⟩⟩
def putFD (f : Str) (d : D) : List (Str × D) → List (Str × D)
  | [] => [(f, d)]
  | p :: r => if p.1 = f then (p.1, d) :: r else p :: putFD f d r
theorem putF_eq {f : Str} {v : V} : ∀ fs : List (Str × V), putF f v fs = match fs with
    | [] => [(f, v)]
    | p :: r => if p.1 = f then (p.1, v) :: r else p :: putF f v r := fun fs => by
  cases fs with
  | nil => rfl
  | cons p r =>
    obtain ⟨g, w⟩ := p
    rfl
theorem kats_putF {f : Str} {v : V} (a : At K I v d) : ∀ {ws : List (Str × V)} {fs : List (Str × D)}, KAts K I ws fs → KAts K I (putF f v ws) (putFD f d fs)
  | _, _, .nil => .cons ⟨rfl, a⟩ .nil
  | x :: xs, y :: ys, .cons r t => by
    rw [putF_eq, putFD]
    show KAts K I (if x.1 = f then (x.1, v) :: xs else x :: putF f v xs) (if y.1 = f then (y.1, d) :: ys else y :: putFD f d ys)
    rw [← r.1]
    by_cases e : x.1 = f
    · rw [if_pos e, if_pos e]
      exact .cons ⟨rfl, a⟩ t
    · rw [if_neg e, if_neg e]
      exact .cons r (kats_putF a t)
theorem Blk.fld {i : Nat} {f : Str} {C x dx : Addr} {fs : List (Str × D)} (h : ρ[i]? = some (.own (resI K C x dx fs))) (hv : GvE K F ρ tv d) (c : Cls K C) (n : NoAttr K C f) (hl : fs.length < 1000) (q : P.nx (ρ.set i (.own (resI K C x dx (putFD f d fs))))) : Blk K F ρ (sFld K (tVar i) tv f) P := ⟨fun {I H σ E} s e => hv.run s fun v I1 H1 s1 a1 => by
  obtain ⟨v0, f0, h1, ⟨ws, rfl, rfl, h2, h3, a⟩, h4, nf, hput⟩ := (s.step s1).put (H' := H) h
  have hl' : ws.length < 1000 := by
    have : ws.length = fs.length := Paired.length a
    omega
  have hne : x ≠ dx := fun e => by
    rw [e] at nf
    simp at nf
  refine ⟨.ref x, h1, x, C, dx, ws, rfl, h2, c, n, hl', e.nx q s1.i (hput _ [x, dx] _ (fun q hq => .inl hq) nf (fun q hq _ => upd_ne fun e => hq (by rw [e]; exact List.mem_cons_self)) (fun q hq => ?_) ⟨_, rfl, rfl, upd_same, by rw [upd_ne hne.symm]; exact h3, kats_putF a1 a⟩)⟩
  rcases List.mem_cons.mp hq with e | e
  · rw [e, upd_same]
    exact fun z => nomatch z
  · rw [List.mem_singleton.mp e, upd_ne hne.symm, h3]
    exact fun z => nomatch z⟩
/-- the slots at an __init__'s start -/
def startI (K : PySem.W.Frag) (C x dx : Addr) (N : List Str) (ds : List D) : List Slot := .own (resI K C x dx []) :: (ds.map .imm ++ List.replicate (N.length - (ds.length + 1)) .un)
def initP (K : PySem.W.Frag) (C x dx : Addr) (fs : List (Str × D)) : Ps := { nx := fun r => r[0]? = some (.own (resI K C x dx fs)), rt := fun _ _ => False, bk := fun _ => False, ct := fun _ => False }
theorem enterI {N : List Str} {sb : Bool} {C : Addr} {R : List D → List (Str × D) → Prop} {vs : List V} {H : Hp} {Q : VK} {X : XK} (hb : ∀ F x dx ds fs, R ds fs → (sb = true → F.L = []) → Blk K F (startI K C x dx N ds) t (initP K C x dx fs)) (h : spI K sb C R vs H Q X) : t { nx := fun _ H' => Q .non H', rt := Q } (L2.start N vs) H := by
  obtain ⟨L, I, x, dx, vs', ds, fs, rfl, hx, hdx, ix, idx, hne, u, l, hsb, a, hR, k⟩ := h
  have hH0 : ∀ q, (fun p => if p = x then none else if p = dx then none else H p) q = (if q = x then none else if q = dx then none else H q) := fun q => rfl
  have hoff : ∀ q o, (if q = x then none else if q = dx then none else H q) = some o → q ≠ x ∧ q ≠ dx ∧ H q = some o := fun q o h => by
    by_cases e : q = x
    · rw [if_pos e] at h
      cases h
    · rw [if_neg e] at h
      by_cases e2 : q = dx
      · rw [if_pos e2] at h
        cases h
      · rw [if_neg e2] at h
        exact ⟨e, e2, h⟩
  refine (hb ⟨fun p => if p = x then none else if p = dx then none else H p, I, L⟩ x dx ds fs hR hsb).run (I := I) ⟨⟨Ext.refl' _, fun q o h => (hoff q o h).2.2, fun _ _ z => z, u, l⟩, [x, dx] ++ [], ?_, ?_, fun q hq => ?_⟩ ⟨fun n x' s => ?_, fun n _ _ _ => n.elim, fun n _ _ => n.elim, fun n _ _ => n.elim⟩
  · unfold startI L2.start
    have hl := Paired.length a
    refine .own ⟨[], rfl, rfl, hx, hdx, .nil⟩ ?_
    rw [show N.length - (V.ref x :: vs').length = N.length - (ds.length + 1) by rw [List.length_cons, hl]]
    exact slots_start a
  · simp
    exact hne.symm
  · have hq : q = x ∨ q = dx := by simpa using hq
    rcases hq with e | e
    · subst e
      exact ⟨ix, if_pos rfl, by rw [hx]; exact fun z => nomatch z⟩
    · subst e
      refine ⟨idx, ?_, by rw [hdx]; exact fun z => nomatch z⟩
      show (if q = x then none else if q = q then none else H q) = none
      rw [if_neg hne, if_pos rfl]
  · rename_i ρ' I' σ' H'
    obtain ⟨v, f, h1, ⟨ws, rfl, rfl, h2, h3, a'⟩, h4, nf, _⟩ := s.put (H' := H') (i := 0) n
    refine k I' H' ws s.ok.i (fun p h1 h2 o h => s.ok.h p o ?_) (fun p h1 h2 => ?_) s.ok.u h2 h3 a'
    · show (if p = x then none else if p = dx then none else H p) = some o
      rw [if_neg h1, if_neg h2]
      exact h
    · by_cases e1 : p = x
      · rw [e1]
        exact (h4 x List.mem_cons_self).1
      · by_cases e2 : p = dx
        · rw [e2]
          exact (h4 dx (by simp)).1
        · refine s.ok.n p ?_ h2
          show (if p = x then none else if p = dx then none else H p) ≠ none
          rw [if_neg e1, if_neg e2]
          exact h1
/-- an __init__ by data -/
theorem okI {Pg : Program} {w : World} {mg : Str → Option Value} {base : Heap} {x qual : Str} {st : Stmt} {f : Addr} {fd : FuncData} {N ps : List Str} {k : Nat} {sb : Bool} {C : Addr} {R : List D → List (Str × D) → Prop} (T : Fun K x qual st f fd) (S : FnScope N ps (defScope st)) (hl : ∀ ds d, R ds d → ds.length + 1 = ps.length)
    (hb : ∀ (cdv : Value) (A : Around) (outer : List Env) (s : Shared) (H : Hp) (X : XK), Room k (A.deeper (envOfC qual (defScope st) s.heap.objs.size f cdv)) →
      ∃ t, PSs (cxOf CX0 Pg w K mg base N qual (defScope st) f cdv A outer s H X).nox (defBody st) t ∧ ∀ F x dx ds fs, R ds fs → (sb = true → F.L = []) → Blk K F (startI K C x dx N ds) t (initP K C x dx fs)) : FnOk Pg w K mg base CX0 (k + 1) f fd ps (spI K sb C R) :=
  T.ok S (fun vs H Q X h => by
    obtain ⟨L, I, x, dx, vs', ds, fs, rfl, hx, hdx, ix, idx, hne, u, l, hsb, a, hR, _⟩ := h
    rw [List.length_cons, Paired.length a]
    exact hl ds fs hR) fun cdv A outer s H vs Q X hr h => by
    obtain ⟨t, h1, h2⟩ := hb cdv A outer s H X hr
    exact ⟨t, h1, enterI h2 h⟩
/-! ### list(d.items()) -/
def itemsD (kvs : List (Key × D)) : List D := kvs.map fun p => .tup [ofV (kV p.1), p.2]
theorem at_key {I : Hp} {k : Key} : At K I (kV k) (ofV (kV k)) := by
  cases k with
  | inl i => exact .int i
  | inr z => exact .str z
theorem GvE.items {kvs : List (Key × D)} (h : GvE K F ρ te (.dK kvs)) (hL : F.L = []) : GvE K F ρ (LiI.tListItems te) (.lst (itemsD kvs)) := ⟨fun {I H σ Q} s k => h.run s fun v I1 H1 s1 a1 => by
  obtain ⟨q, ws, rfl, hq, aw⟩ := a1.inv_dK
  have o1 := s.ok.step s1
  have hq1 : H1 q = some (.dK ws) := (o1.u q _ hq).1 (by rw [hL]; exact List.not_mem_nil)
  refine ⟨q, ws, rfl, hq1, fun H' p ts hk hp ht hpt hl hP => ?_⟩
  -- the new objects are told as unchanging
  let J : Hp := fun b => if b = p ∨ b ∈ ts then H' b else I1 b
  have jI : Ext I1 J := fun b o e => by
    show (if b = p ∨ b ∈ ts then H' b else I1 b) = some o
    rw [if_neg]
    · exact e
    · rintro (z | z)
      · rw [z, o1.u.no hp] at e
        cases e
      · rw [o1.u.no (ht b z)] at e
        cases e
  have jp : J p = some (.lst (ts.map V.ref)) := by
    show (if p = p ∨ p ∈ ts then H' p else I1 p) = _
    rw [if_pos (.inl rfl)]
    exact hl
  have jt : ∀ t ∈ ts, J t = H' t := fun t z => if_pos (.inr z)
  have stp : Stp F.L I1 H1 J H' := ⟨jI, hk, fun b h1 h2 => by
    show (if b = p ∨ b ∈ ts then H' b else I1 b) = none
    rw [if_neg]
    · exact h2
    · rintro (z | z)
      · exact h1 (z ▸ hp)
      · exact h1 (ht b z), fun b o e => ⟨fun _ => by
    have e : (if b = p ∨ b ∈ ts then H' b else I1 b) = some o := e
    by_cases z : b = p ∨ b ∈ ts
    · rw [if_pos z] at e
      exact e
    · rw [if_neg z] at e
      exact hk b o ((o1.u b o e).1 (by rw [hL]; exact List.not_mem_nil)), fun z => by rw [hL] at z; cases z⟩⟩
  refine k _ J H' (s1.trans stp) (.lst' jp ?_)
  have main : ∀ {ts : List Addr} {ws : List (Key × V)} {kvs : List (Key × D)}, (∀ t ∈ ts, J t = H' t) → Paired (fun (t : Addr) (q : Key × V) => H' t = some (.tup [kV q.1, q.2])) ts ws → KAts K J ws kvs → Ats K J (ts.map V.ref) (itemsD kvs) := by
    intro ts ws kvs hj hp ha
    induction hp generalizing kvs with
    | nil =>
      cases ha
      exact .nil
    | @cons t q ts qs r rs ih =>
      cases ha with
      | @cons _ p _ ps a as =>
        refine .cons (.tup' (ofT (by rw [hj t List.mem_cons_self]; exact r)) (.cons ?_ (.cons a.2 .nil))) (ih (fun x hx => hj x (List.mem_cons_of_mem _ hx)) as)
        rw [← a.1]
        exact at_key
  exact main jt hP (aw.mono jI)⟩
end
end Own

set_option Elab.async false
set_option maxRecDepth 100000
set_option maxHeartbeats 4000000
set_option linter.all false
/-! sorted keys of a dict; plain data held against one another and shown -/
namespace Own
open PySem PySem.Spec PyProof.Rows L2
section
variable {K : PySem.W.Frag} {F : Fr}
theorem sorted_one {ys zs ks : List Str} (hz : zs.Perm ks) (h1 : zs.Pairwise leS) (hy : ys.Perm ks) (h2 : sortedS ys = true) : ys = zs :=
  List.Perm.eq_of_pairwise (le := leS) (fun _ _ _ _ h1 h2 => leS_anti h1 h2) (sorted_pw h2) h1 (hy.trans hz.symm)
/-- sorted(d) of a dict with keys of text -/
theorem rc_sortN {kvs : List (Key × D)} (ks zs : List Str) (hk : kvs.map (·.1) = ks.map Sum.inr) (hn : ks.length < 64) (hz : zs.Perm ks) (h1 : zs.Pairwise leS) : RlC K F rSortN [.dK kvs] (.lst (zs.map .str)) := ⟨fun o a k => by
  cases a with
  | cons a r =>
    cases r
    obtain ⟨p, ws, rfl, hp, aw⟩ := a.inv_dK
    refine ⟨p, ws, ks, rfl, o.u.rd hp, (kats_keys aw).trans hk, hn, fun ys q hy hs hq => ?_⟩
    obtain rfl := sorted_one hz h1 hy hs
    obtain ⟨s, b⟩ := new_lst (K := K) (F := F) (ds := ys.map D.str) (xs := ys.map V.str) o hq (paired_of (by simp) fun i x d hx hd => by
      obtain ⟨y, hy, rfl⟩ := Own.map_at hx
      obtain ⟨y2, hy2, rfl⟩ := Own.map_at hd
      rw [hy] at hy2
      cases hy2
      exact .str _)
    exact k _ _ _ s b⟩
/-! plain data as data -/
mutual
def ofPy : PyData → D
  | .none => .non
  | .bool b => .bl b
  | .int i => .int i
  | .str s => .str s
  | .list xs => .lst (ofPys xs)
  | .tuple xs => .tup (ofPys xs)
  | .dict _ => .non
def ofPys : List PyData → List D
  | [] => []
  | x :: xs => ofPy x :: ofPys xs
end
theorem ofPys_map : ∀ {xs : List PyData}, ofPys xs = xs.map ofPy
  | [] => by rw [ofPys]; rfl
  | x :: xs => by rw [ofPys, ofPys_map]; rfl
theorem ofPy_list {xs : List PyData} : ofPy (.list xs) = .lst (xs.map ofPy) := by
  rw [ofPy, ofPys_map]
theorem ofPy_tuple {xs : List PyData} : ofPy (.tuple xs) = .tup (xs.map ofPy) := by
  rw [ofPy, ofPys_map]
mutual
theorem at_dp {I H : Hp} {L : List Addr} (u : Und L I H) : ∀ (p : PyData) (v : V), p.canLay0 = true → At K I v (ofPy p) → Dp K H v p
  | .none, v, _, a => by
    rw [ofPy] at a
    cases a
    exact .non
  | .bool b, v, _, a => by
    rw [ofPy] at a
    cases a
    exact .bl b
  | .int i, v, _, a => by
    rw [ofPy] at a
    obtain rfl := a.inv_int
    exact .int i
  | .str s, v, _, a => by
    rw [ofPy] at a
    obtain rfl := a.inv_str
    exact .str s
  | .list xs, v, h, a => by
    rw [ofPy_list] at a
    obtain ⟨p, ys, rfl, hp, ax⟩ := a.inv_lst
    exact .lst (ofL (u.tup hp fun z => z)) (ats_dp u xs ys h ax)
  | .tuple xs, v, h, a => by
    rw [ofPy_tuple] at a
    obtain ⟨p, ys, rfl, hp, ax⟩ := a.inv_tup
    exact .tup (u.sqT hp) (ats_dp u xs ys h ax)
  | .dict kvs, v, h, a => by simp [PyData.canLay0] at h
theorem ats_dp {I H : Hp} {L : List Addr} (u : Und L I H) : ∀ (ps : List PyData) (vs : List V), PyData.canLayAll0 ps = true → Ats K I vs (ps.map ofPy) → DpAll K H vs ps
  | [], vs, _, a => by
    cases a
    exact .nil
  | p :: ps, vs, h, a => by
    cases a with
    | cons a r =>
      have h : (p.canLay0 && PyData.canLayAll0 ps) = true := h
      rw [Bool.and_eq_true] at h
      exact .cons (at_dp u p _ h.1 a) (ats_dp u ps _ h.2 r)
end
theorem rl_eqPy {p q : PyData} (hp : Neat p) (hq : Neat q) : Rl2 K F (rEqD K) (ofPy p) (ofPy q) (.bl (PyData.eqv p q)) := ⟨fun o a b k =>
  ⟨p, q, at_dp o.u p _ hp.lay a, at_dp o.u q _ hq.lay b, hp.shaped, hq.shaped, k _ _ _ (.refl o.u) (.bl _)⟩⟩
theorem rl_nePy {p q : PyData} (hp : Neat p) (hq : Neat q) : Rl2 K F (rNeD K) (ofPy p) (ofPy q) (.bl (!PyData.eqv p q)) := ⟨fun o a b k =>
  ⟨p, q, at_dp o.u p _ hp.lay a, at_dp o.u q _ hq.lay b, hp.shaped, hq.shaped, k _ _ _ (.refl o.u) (.bl _)⟩⟩
theorem rc_reprPy {p : PyData} (hp : Neat p) : RlC K F (rReprD K) [ofPy p] (.str p.shown) := ⟨fun o a k => by
  cases a with
  | cons a r =>
    cases r
    exact ⟨_, p, rfl, at_dp o.u p _ hp.lay a, hp.show_, hp.noDict, hp.deep, hp.len, k _ _ _ (.refl o.u) (.str _)⟩⟩
theorem rc_isDictPy {p : PyData} (hp : Neat p) : RlC K F (rIsi K) [ofPy p, .ty "dict"] (.bl false) := ⟨fun o a k => by
  cases a with
  | cons a r =>
    cases r with
    | cons b r =>
      cases r
      obtain ⟨n, hn, hk⟩ := ty_data (at_dp o.u p _ hp.lay a)
      obtain rfl := b.inv_ty
      exact ⟨_, _, _, _, false, rfl, .ty "dict", hn, hk, k _ _ _ (.refl o.u) (.bl _)⟩⟩
/-- the law's own look at plain data -/
def R_same (ds : List D) (d : D) : Prop := ∃ p, Neat p ∧ ds = [ofPy p, ofPy p] ∧ d = .bl true
/-- a slice of a list that stands by its address -/
theorem rl_slAt {l : Addr} {xs : List V} {lo hi : Option Int} {ds : List D} (hs : SqL K F.H0 l xs) (h : ∀ I, Ats K I (cutV xs lo hi) ds) : RlS K F (rSlL K) (.at_ l) lo hi (.lst ds) := ⟨fun o a k => by
  refine ⟨l, xs, a.inv_at, seqL hs o.h, fun q hq => ?_⟩
  obtain ⟨s, b⟩ := new_lst (K := K) (F := F) (ds := ds) (xs := cutV xs lo hi) o hq (h _)
  exact k _ _ _ s b⟩
/-- a law's own spec: a list of ints goes in, True comes out -/
def spLaw (K : PySem.W.Frag) : Sp := fun vs H Q _ => ∃ (l : Addr) (ns : List Int), vs = [.ref l] ∧ SqL K H l (ns.map V.int) ∧ ns.length ≤ 63 ∧ ∀ H', Q (.bl true) H'
theorem enterL {N : List Str} {t : TS} {l : Addr} {ns : List Int} {H : Hp} {Q : VK} (hb : ∀ F : Fr, SqL K F.H0 l (ns.map V.int) → F.L = [] → Blk K F (startS N [.at_ l]) t (retP (.bl true))) (hs : SqL K H l (ns.map V.int)) (q : ∀ H', Q (.bl true) H') : t { nx := fun _ H' => Q .non H', rt := Q } (L2.start N [.ref l]) H := by
  refine (hb ⟨H, fun _ => none, []⟩ hs rfl).run (I := fun _ => none) ⟨⟨Ext.refl' _, Ext.refl' _, fun _ _ z => z, fun a o h => by simp at h, fun q h => absurd h List.not_mem_nil⟩, [], ?_, List.nodup_nil, fun q hq => absurd hq List.not_mem_nil⟩ ⟨fun n x s => ?_, fun n x o a => ?_, fun n _ _ => n.elim, fun n _ _ => n.elim⟩
  · unfold startS L2.start
    exact slots_start (vs := [.ref l]) (ds := [.at_ l]) (.cons (.at_ l) .nil)
  · have n : D.bl true = .non := n
    cases n
  · have n : _ = D.bl true := n
    subst n
    cases a
    exact q _
theorem okLG {Pg : Program} {w : World} {mg : Str → Option Value} {base : Heap} {x qual : Str} {st : Stmt} {f : Addr} {fd : FuncData} {N ps : List Str} {k : Nat} (T : Fun K x qual st f fd) (S : FnScope N ps (defScope st)) (hl : ps.length = 1)
    (hb : ∀ (cdv : Value) (A : Around) (outer : List Env) (s : Shared) (H : Hp) (X : XK), A.guards = some [] → Room k (A.deeper (envOfC qual (defScope st) s.heap.objs.size f cdv)) →
      ∃ t, PSs (cxOf CX0 Pg w K mg base N qual (defScope st) f cdv A outer s H X).nox (defBody st) t ∧ ∀ F l (ns : List Int), SqL K F.H0 l (ns.map V.int) → ns.length ≤ 63 → F.L = [] → Blk K F (startS N [.at_ l]) t (retP (.bl true))) : FnG Pg w K mg base CX0 (k + 1) f fd ps (spLaw K) :=
  okG T S (fun vs H Q X h => by
    obtain ⟨l, ns, rfl, _⟩ := h
    exact hl.symm) fun cdv A outer s H vs Q X hg hr h => by
    obtain ⟨l, ns, rfl, hs, hn, q⟩ := h
    obtain ⟨t, h1, h2⟩ := hb cdv A outer s H X hg hr
    exact ⟨t, h1, enterL (fun F h3 h4 => h2 F l ns h3 hn h4) hs q⟩
theorem okL {Pg : Program} {w : World} {mg : Str → Option Value} {base : Heap} {x qual : Str} {st : Stmt} {f : Addr} {fd : FuncData} {N ps : List Str} {k : Nat} (T : Fun K x qual st f fd) (S : FnScope N ps (defScope st)) (hl : ps.length = 1)
    (hb : ∀ (cdv : Value) (A : Around) (outer : List Env) (s : Shared) (H : Hp) (X : XK), Room k (A.deeper (envOfC qual (defScope st) s.heap.objs.size f cdv)) →
      ∃ t, PSs (cxOf CX0 Pg w K mg base N qual (defScope st) f cdv A outer s H X).nox (defBody st) t ∧ ∀ F l (ns : List Int), SqL K F.H0 l (ns.map V.int) → ns.length ≤ 63 → F.L = [] → Blk K F (startS N [.at_ l]) t (retP (.bl true))) : FnOk Pg w K mg base CX0 (k + 1) f fd ps (spLaw K) :=
  T.ok S (fun vs H Q X h => by
    obtain ⟨l, ns, rfl, _⟩ := h
    exact hl.symm) fun cdv A outer s H vs Q X hr h => by
    obtain ⟨l, ns, rfl, hs, hn, q⟩ := h
    obtain ⟨t, h1, h2⟩ := hb cdv A outer s H X hr
    exact ⟨t, h1, enterL (fun F h3 h4 => h2 F l ns h3 hn h4) hs q⟩
/-- the slice of a law's script -/
theorem sl_ints {l : Addr} {ns : List Int} {lo hi : Option Int} (hs : SqL K F.H0 l (ns.map V.int)) (hn : ns.length ≤ 63) : ∃ ms : List Int, ms.length ≤ 63 ∧ RlS K F (rSlL K) (.at_ l) lo hi (.lst (ms.map .int)) := by
  obtain ⟨ms, e, hm⟩ := cut_ints ns lo hi
  refine ⟨ms, by omega, rl_slAt hs fun I => ?_⟩
  rw [e]
  exact paired_of (by simp) fun i x d hx hd => by
    obtain ⟨y, hy, rfl⟩ := Own.map_at hx
    obtain ⟨y2, hy2, rfl⟩ := Own.map_at hd
    rw [hy] at hy2
    cases hy2
    exact .int _
end
end Own

set_option Elab.async false
set_option maxRecDepth 100000
set_option maxHeartbeats 4000000
set_option linter.all false
/-! zip of a tuple and a list; str() and int() of words; split; a list or a tuple by its place. -/
namespace Own
open PySem PySem.Spec PyProof.Rows L2 RZ
def ItzTL (K : PySem.W.Frag) (a b : Addr) : It :=
  ⟨fun i H => ∃ (xs ys : List V) (x y : V), SqT K H a xs ∧ SqL K H b ys ∧ xs[i]? = some x ∧ ys[i]? = some y,
    fun i H v H' => ∃ T x y, v = .ref T ∧ H T = none ∧ H' = L2.upd H T (.tup [x, y]) ∧ (∀ xs, SqT K H a xs → xs[i]? = some x) ∧ ∀ ys, SqL K H b ys → ys[i]? = some y,
    fun i H => ∃ xs ys : List V, SqT K H a xs ∧ SqL K H b ys ∧ i ≤ xs.length ∧ i ≤ ys.length ∧ (i = xs.length ∨ i = ys.length)⟩
theorem turn_zipTL {P : Program} {w : World} {K : PySem.W.Frag} {elts : List Expr} {kk : Nat} {tpos : Pos} {a b z TI TO i1 i2 : Addr} (S : ZipSep2 z TI TO i1 i2 [i1, a] [i2, b]) (hna : a ≠ i1) (hne : b ≠ i2) :
    Turn P w K (.Tuple elts kk tpos) (ItzTL K a b) [z, TI, TO, i1, i2] z (fun i h => IsZip h z TI TO .none ∧ IsTupOf2 h TI (.ref i1) (.ref i2) ∧ (∃ x y, IsTupOf2 h TO x y) ∧ h.IsTupleIter i1 a i ∧ h.IsListIter i2 b i) where
  mem := by simp
  obj := fun i h st c hc => by
    obtain ⟨hz, hTI, ⟨x, y, hTO⟩, ⟨o1, e1, _, d1⟩, ⟨o2, e2, _, d2⟩⟩ := st
    have e' : c = z ∨ c = TI ∨ c = TO ∨ c = i1 ∨ c = i2 := by simpa using hc
    rcases e' with q | q | q | q | q
    · rw [q]; exact ⟨_, hz, fun v q => nomatch q⟩
    · rw [q]; exact ⟨_, hTI, fun v q => nomatch q⟩
    · rw [q]; exact ⟨_, hTO, fun v q => nomatch q⟩
    · rw [q]; exact ⟨o1, e1, fun v q => by rw [d1] at q; cases q⟩
    · rw [q]; exact ⟨o2, e2, fun v q => by rw [d2] at q; cases q⟩
  keep := fun i h h' st k => by
    obtain ⟨hz, hTI, ⟨x, y, hTO⟩, h1, h2⟩ := st
    exact ⟨k z (by simp) _ hz, k TI (by simp) _ hTI, ⟨x, y, k TO (by simp) _ hTO⟩, h1.at fun o q => k i1 (by simp) o q, h2.at fun o q => k i2 (by simp) o q⟩
  item := by
    intro X hP hw hK hc i pins s σ H E I hf st hg
    subst hP hw hK
    obtain ⟨hz, hTI, ⟨x0, y0, hTO⟩, h1, h2⟩ := st
    obtain ⟨xs, ys, x, y, hqx, hqy, hx, hy⟩ := hg
    obtain ⟨its, rv, p, _⟩ := I.tuple hqx
    obtain ⟨its2, rv2, p2, _⟩ := I.list hqy
    obtain ⟨u, hu, ru⟩ := rv.get hx
    obtain ⟨u2, hu2, ru2⟩ := rv2.get hy
    have hzl : z < s.heap.objs.size := Heap.lt_size hz
    have hh : X.A.in1.handled = none := I.ok.hd hc
    refine wpAny_pyNext_zipD2_item S (Draws.tuple hh i1 a hna its.toArray) (Draws.list hh i2 b hne its2.toArray) hz hTI hTO ⟨h1, p⟩ ⟨h2, p2.isList⟩ (by
      have := (List.getElem?_eq_some_iff.mp hu).1
      simpa using this) (by
      have := (List.getElem?_eq_some_iff.mp hu2).1
      simpa using this) fun x1 x2 h' tk q1 q2 z' TO' h1' h2' hT hsz hk => ?_
    have hx1 : x1 = u := by
      have q1 : its.toArray[i]? = some x1 := q1
      rw [show its.toArray[i]? = some u by simpa using hu] at q1
      exact (Option.some.inj q1).symm
    subst hx1
    have hx2 : x2 = u2 := by
      have q2 : its2.toArray[i]? = some x2 := q2
      rw [show its2.toArray[i]? = some u2 by simpa using hu2] at q2
      exact (Option.some.inj q2).symm
    subst hx2
    refine ⟨_, rfl, wpAny_letOwnedTupleGo_zip (s := { s with heap := h', toks := tk }) z' fun h'' z'' sb => ?_⟩
    have hT2 : h''.get? s.heap.objs.size = some { cls := .type "tuple", data := .seq #[x1, x2] } := (sb.2 _ (Nat.ne_of_gt hzl)).trans hT
    have new : ObjOk X.prog X.w (L2.upd H s.heap.objs.size (.tup [x, y])) h'' s.heap.objs.size (.tup [x, y]) :=
      ⟨by show 2 ≤ sizeLine; decide, [x1, x2], .cons ru (.cons ru2 .nil), ⟨_, hT2, rfl, _, rfl⟩⟩
    have I1 : Inv X pins σ (L2.upd H s.heap.objs.size (.tup [x, y])) { s with heap := h'', toks := tk } :=
      I.turnedNew (t' := tk) (ch := [z, TI, TO, i1, i2]) (fun c o hb q => (sb.2 c (fun q' => hb (by simp [q']))).trans (hk c o (fun q' => hb (by simp [q'])) (fun q' => hb (by simp [q'])) (fun q' => hb (by simp [q'])) (fun q' => hb (by simp [q'])) q)) hf (Nat.le_refl _) new
    refine ⟨.ref s.heap.objs.size, _, I1, rfl, ⟨_, x, y, rfl, I.hok.fresh (Nat.le_refl _), rfl, fun l hl => by rw [I.tuple_inj hl hqx]; exact hx, fun l hl => by rw [I.list_inj hl hqy]; exact hy⟩, ⟨z'', ?_, ⟨x1, x2, ?_⟩, ?_, ?_⟩, fun c hcm => ?_⟩
    · exact (sb.2 _ S.TIz).trans (hk _ _ S.TIz S.TITO S.TIi1 S.TIi2 hTI)
    · exact (sb.2 _ S.TOz).trans TO'
    · exact h1'.1.at fun o q => (sb.2 _ S.zi1.symm).trans q
    · exact h2'.1.at fun o q => (sb.2 _ S.zi2.symm).trans q
    · have hlt : c < s.heap.objs.size := by
        have e' : c = z ∨ c = TI ∨ c = TO ∨ c = i1 ∨ c = i2 := by simpa using hcm
        rcases e' with q | q | q | q | q
        · rw [q]; exact hzl
        · rw [q]; exact Heap.lt_size hTI
        · rw [q]; exact Heap.lt_size hTO
        · rw [q]; obtain ⟨_, e1, _⟩ := h1; exact Heap.lt_size e1
        · rw [q]; obtain ⟨_, e2, _⟩ := h2; exact Heap.lt_size e2
      rw [upd_ne (Nat.ne_of_lt hlt)]
      exact (hf c hcm).1
  done := by
    intro X hP hw hK hc i pins s σ H E I hf st hg
    subst hP hw hK
    obtain ⟨hz, hTI, ⟨x0, y0, hTO⟩, h1, h2⟩ := st
    obtain ⟨xs, ys, hqx, hqy, l1, l2, hend⟩ := hg
    obtain ⟨its, rv, p, _⟩ := I.tuple hqx
    obtain ⟨its2, rv2, p2, _⟩ := I.list hqy
    have hl := rv.length
    have hl2 := rv2.length
    have hh : X.A.in1.handled = none := I.ok.hd hc
    refine wpAny_pyNext_zipD2_end S (Draws.tuple hh i1 a hna its.toArray) (Draws.list hh i2 b hne its2.toArray) hz hTI hTO ⟨h1, p⟩ ⟨h2, p2.isList⟩ (by simp; omega) (by simp; omega) (by simp; omega) fun h' tk hk => ⟨rfl, I.turnedL (t' := tk) (ch := [z, TI, TO, i1, i2]) (fun c o hb q =>
      hk c o (fun q' => hb (by simp [q'])) (fun q' => hb (by simp [q'])) (fun q' => hb (by simp [q'])) (fun q' => hb (by simp [q'])) q) hf⟩
  self := fun A i s Q E st h => wpAny_pyIter_zip st.1 h
theorem zsep2 (n a b : Nat) (ha : a < n) (h : b < n) : ZipSep2 (show Addr from n + 4) (show Addr from n + 2) (show Addr from n + 3) (show Addr from n) (show Addr from n + 1) [(show Addr from n), (show Addr from a)] [(show Addr from n + 1), (show Addr from b)] where
  TIz := zne (by omega)
  TOz := zne (by omega)
  TITO := zne (by omega)
  TIi1 := zne (by omega)
  mem1 := List.mem_cons_self
  zf1 := fun m => (List.mem_cons.mp m).elim (fun e => zne (by omega) e) fun m => zne (by omega) (List.mem_singleton.mp m)
  Tf1 := fun m => (List.mem_cons.mp m).elim (fun e => zne (by omega) e) fun m => zne (by omega) (List.mem_singleton.mp m)
  TIi2 := zne (by omega)
  mem2 := List.mem_cons_self
  zf2 := fun m => (List.mem_cons.mp m).elim (fun e => zne (by omega) e) fun m => zne (by omega) (List.mem_singleton.mp m)
  Tf2 := fun m => (List.mem_cons.mp m).elim (fun e => zne (by omega) e) fun m => zne (by omega) (List.mem_singleton.mp m)
  sep1_2 := fun m => (List.mem_cons.mp m).elim (fun e => zne (by omega) e) fun m => zne (by omega) (List.mem_singleton.mp m)
  sep2_1 := fun m => (List.mem_cons.mp m).elim (fun e => zne (by omega) e) fun m => zne (by omega) (List.mem_singleton.mp m)
def iZipTL (K : PySem.W.Frag) (ta : TA) : TI := fun σ H R => ta σ H fun vs H1 => ∃ a b xs ys, vs = [.ref a, .ref b] ∧ SqT K H1 a xs ∧ SqL K H1 b ys ∧ R (ItzTL K a b) H1
theorem pi_zipTL {X : Cx} {e e2 : Expr} {ta : TA} {p pos tpos : Pos} {elts : List Expr} {kk : Nat} (hg : Gl X "zip") (hm : X.mg "zip" = none) (ha : PA X [e, e2] ta)
    (hs : starEach [e, e2] X.env = (false, eval e X.env) :: starEach [e2] X.env := by rfl) (hpl : (backTo pos (starEach [e2] X.env)).any (·.1) = false := by rfl) :
    PI X (.Tuple elts kk tpos) (.Call (.Name "zip" p) [e, e2] [] pos) (iZipTL X.K ta) := by
  refine ⟨fun pins s σ H R I h => ?_⟩
  refine Call_ (ld_blt I hg hm PyProof.Rows.boot_zip (PyProof.Rows.callWith_type1 (thn (ha.run pos pins s σ H _ I h) fun us s1 ⟨vs, H1, I1, r1, q1⟩ => ?_) hs hpl))
  obtain ⟨a, b, xs, ys, ex, hqx, hqy, q⟩ := q1
  subst ex
  cases r1 with
  | cons r rr =>
    cases rr with
    | cons r' rr =>
      cases rr
      cases r
      cases r'
      have fresh5 : ∀ c, c ∈ [s1.heap.objs.size + 4, s1.heap.objs.size + 2, s1.heap.objs.size + 3, s1.heap.objs.size, s1.heap.objs.size + 1] → FpOk X pins H1 c := fun c hcm => by
        have e' : c = s1.heap.objs.size + 4 ∨ c = s1.heap.objs.size + 2 ∨ c = s1.heap.objs.size + 3 ∨ c = s1.heap.objs.size ∨ c = s1.heap.objs.size + 1 := by simpa using hcm
        have hle : s1.heap.objs.size ≤ c := by
          rcases e' with z | z | z | z | z
          · rw [z]; exact Nat.le_add_right _ _
          · rw [z]; exact Nat.le_add_right _ _
          · rw [z]; exact Nat.le_add_right _ _
          · rw [z]; exact Nat.le_refl _
          · rw [z]; exact Nat.le_add_right _ _
        exact I1.fpOk hle (I1.hok.fresh hle)
      obtain ⟨its, rv, p1, _⟩ := I1.tuple hqx
      obtain ⟨its2, rv2, p2, _⟩ := I1.list hqy
      obtain ⟨o1, ho1, _⟩ := id p1
      have ha' := Heap.lt_size ho1
      have hb : b < s1.heap.objs.size := p2.lt
      refine zip_begins2 (begins_tuple a its.toArray) (begins_list b its2.toArray) p1 p2.isList fun h' hz hTI hTO g1 g2 hsz hk => wpAny_pyIter_zip hz ?_
      have I2 : Inv X pins σ H1 { s1 with heap := h' } := I1.kept (t' := s1.toks) hk
      exact ⟨s1.heap.objs.size + 4, [s1.heap.objs.size + 4, s1.heap.objs.size + 2, s1.heap.objs.size + 3, s1.heap.objs.size, s1.heap.objs.size + 1], _, _, H1, rfl, I2, turn_zipTL (zsep2 _ _ _ ha' hb) (zne (.inl ha')) (zne (.inl (Nat.lt_succ_of_lt hb))), ⟨hz, hTI, ⟨_, _, hTO⟩, ⟨_, g1, rfl, rfl⟩, ⟨_, g2, rfl, rfl⟩⟩, fresh5, q⟩
theorem walk_zipTL {K : PySem.W.Frag} {a b : Addr} {xs ys : List V} {n : Nat} (hn : n = min xs.length ys.length) : Walk (ItzTL K a b) n (fun H => SqT K H a xs ∧ SqL K H b ys) (YPair (fun i => xs[i]?) (fun i => ys[i]?)) := by
  subst hn
  refine ⟨fun i _ hi q => ?_, fun _ q => ⟨xs, ys, q.1, q.2, by omega, by omega, by omega⟩, fun i H v H' _ q y => ?_⟩
  · have h1 : i < xs.length := by omega
    have h2 : i < ys.length := by omega
    exact ⟨xs, ys, xs[i], ys[i], q.1, q.2, by simp [h1], by simp [h2]⟩
  · obtain ⟨T, x, z, h1, h2, h3, h4, h5⟩ := y
    exact ⟨T, x, z, h1, h2, h3, h4 xs q.1, h5 ys q.2⟩
/-- zip of a tuple and a list -/
theorem GvI.zipTL {K : PySem.W.Frag} {F : Fr} {ρ : List Slot} {tA : TA} {ds es : List D} (h : GvA K F ρ tA [.tup ds, .lst es]) : GvI K F ρ (iZipTL K tA) (GvI.zipD ds es) := ⟨fun s k => h.run s fun vs I1 H1 s1 a1 => by
  cases a1 with
  | cons a r =>
    cases r with
    | cons b r =>
      cases r
      obtain ⟨p, xs, rfl, hp, ax⟩ := a.inv_tup
      obtain ⟨q, ys, rfl, hq, ay⟩ := b.inv_lst
      have o1 := s.ok.step s1
      refine ⟨p, q, xs, ys, rfl, o1.u.sqT hp, ofL (o1.u.tup hq fun z => z), k _ _ _ I1 H1 s1 (walk_zipTL (xs := xs) (ys := ys) (by rw [GvI.zipD_len, Paired.length ax, Paired.length ay])) (fun I2 H2 e o => ⟨o.u.sqT (SqT.mono hp e), ofL (o.u.tup (e _ _ hq) fun z => z)⟩) fun i x I2 H2 H3 hi e o y => ?_⟩
      obtain ⟨T, x1, y1, rfl, hT, e3, hx, hy⟩ := y
      obtain ⟨dx, hdx, adx⟩ := paired_i ax hx
      obtain ⟨dy, hdy, ady⟩ := paired_i ay hy
      obtain ⟨I3, s3, a3⟩ := GvI.pairI o hT e3 (adx.mono e) (ady.mono e)
      exact ⟨_, I3, GvI.zipD_at hdx hdy, s3, a3⟩⟩
/-! ### str() and int() of words; split -/
def rStrX : List V → Hp → VK → Prop := fun xs H Q => (∃ i, xs = [.int i] ∧ i.natAbs.log2 < 1920 ∧ Q (.str (toString i)) H) ∨ ∃ a, xs = [.str a] ∧ Q (.str a) H
theorem call_strX {X : Cx} : CallR X (.type "str") rStrX := by
  intro pins s σ H xs us Q I r h
  rcases h with h | h
  · exact call_str_int pins s σ H xs us Q I r h
  · exact SkE.call_str_str pins s σ H xs us Q I r h
def rIxLT (K : PySem.W.Frag) : R2 := fun x y H Q => rIxL K x y H Q ∨ rIxT K x y H Q
theorem ixLT {X : Cx} : IxR X (rIxLT X.K) := by
  intro value slice pins s σ H x y v u Q I rx ry h hs
  rcases h with h | h
  · exact ix_list value slice pins s σ H x y v u Q I rx ry h hs
  · exact ix_tup value slice pins s σ H x y v u Q I rx ry h hs
section
variable {K : PySem.W.Frag} {F : Fr}
/-- the word of a text or a number -/
def wordD : D → Str
  | .int i => toString i
  | .str z => z
  | _ => Str.empty
def Word (d : D) : Prop := (∃ i, d = .int i ∧ i.natAbs.log2 < 1920) ∨ ∃ z, d = .str z
theorem rc_strX {d : D} (h : Word d) : RlC K F rStrX [d] (.str (wordD d)) := ⟨fun o a k => by
  cases a with
  | cons a r =>
    cases r
    rcases h with ⟨i, rfl, hi⟩ | ⟨z, rfl⟩
    · exact .inl ⟨i, by rw [a.inv_int], hi, k _ _ _ (.refl o.u) (.str _)⟩
    · exact .inr ⟨z, by rw [a.inv_str], k _ _ _ (.refl o.u) (.str _)⟩⟩
theorem rl_ixLT {d : D} {ds : List D} {i : Int} {g : D} (hd : d = .lst ds ∨ d = .tup ds) (h : atI ds i = some g) : Rl2 K F (rIxLT K) d (.int i) g := ⟨fun o a b k => by
  rcases hd with rfl | rfl
  · exact .inl ((rl_ixL h).run o a b k)
  · exact .inr ((rl_ixT h).run o a b k)⟩
theorem rc_intS {x : Str} {n : Int} (h : PySem.intText? x = some n) (hl : x.length ≤ 640) : RlC K F (fun xs H Q => ∃ a n, xs = [.str a] ∧ PySem.intText? a = some n ∧ a.length ≤ 640 ∧ Q (.int n) H) [.str x] (.int n) := ⟨fun o a k => by
  cases a with
  | cons a r =>
    cases r
    exact ⟨x, n, by rw [a.inv_str], h, hl, k _ _ _ (.refl o.u) (.int _)⟩⟩
theorem rm_split {x y : Str} (hy : (y.length == 0) = false) (hx : x.length + 2 ≤ sizeLine) : RlM K F (fun x xs H Q => ∃ a b, x = .str a ∧ xs = [.str b] ∧ (b.length == 0) = false ∧ a.length + 2 ≤ sizeLine ∧ rNewStrs (Txt.split a b) H Q) (.str x) [.str y] (.lst ((Txt.split x y).map .str)) := ⟨fun o a b k => by
  cases b with
  | cons b r =>
    cases r
    refine ⟨x, y, a.inv_str, by rw [b.inv_str], hy, hx, fun q hq => ?_⟩
    obtain ⟨s, b⟩ := new_lst (K := K) (F := F) (ds := (Txt.split x y).map D.str) (xs := (Txt.split x y).map V.str) o hq (paired_of (by simp) fun i x d hx hd => by
      obtain ⟨y, hy, rfl⟩ := Own.map_at hx
      obtain ⟨y2, hy2, rfl⟩ := Own.map_at hd
      rw [hy] at hy2
      cases hy2
      exact .str _)
    exact k _ _ _ s b⟩
theorem words_no {ds : List D} (h : ∀ d ∈ ds, Word d) : ∀ {I : Hp} {xs : List V}, Ats K I xs ds → xs.all flatV = true ∧ inV .non xs = false := by
  induction ds with
  | nil =>
    intro I xs a
    cases a
    exact ⟨rfl, rfl⟩
  | cons d ds ih =>
    intro I xs a
    cases a with
    | cons a r =>
      obtain ⟨h1, h2⟩ := ih (fun d hd => h d (List.mem_cons_of_mem _ hd)) r
      rcases h d List.mem_cons_self with ⟨i, rfl, _⟩ | ⟨z, rfl⟩
      · obtain rfl := a.inv_int
        exact ⟨by rw [List.all_cons, h1]; rfl, by unfold inV at *; rw [List.any_cons, h2]; rfl⟩
      · obtain rfl := a.inv_str
        exact ⟨by rw [List.all_cons, h1]; rfl, by unfold inV at *; rw [List.any_cons, h2]; rfl⟩
/-- None in a list of words -/
theorem rl_nonIn {ds : List D} (h : ∀ d ∈ ds, Word d) : Rl2 K F (rIn K false) .non (.lst ds) (.bl false) := ⟨fun o a b k => by
  obtain ⟨p, xs, rfl, hp, ax⟩ := b.inv_lst
  obtain rfl := a.inv_non
  obtain ⟨h1, h2⟩ := words_no h ax
  refine ⟨p, xs, rfl, .inl (ofL (o.u.tup hp fun z => z)), rfl, h1, ?_⟩
  simp only [Bool.false_eq_true, if_false, h2]
  exact k _ _ _ (.refl o.u) (.bl _)⟩
end
theorem neg_text (n : Nat) : (Str.ofString (toString (Int.negSucc n))).cps.toList = 45 :: TL.numL (n + 1) := by
  rw [← TL.tl_num (n + 1)]
  rfl
theorem intText_int (i : Int) (h : i.natAbs < 10 ^ 20) : PySem.intText? (Str.ofString (toString i)) = some i ∧ (Str.ofString (toString i)).length ≤ 21 := by
  cases i with
  | ofNat n =>
    have hl : (TL.numL n).length ≤ 20 := TL.numL_len (by decide) h
    refine ⟨TL.int_num (by omega), ?_⟩
    show (Str.ofString (toString ((n : Nat) : Int))).length ≤ 21
    rw [TL.len_tl, TL.tl_num]
    omega
  | negSucc n =>
    have hl : (TL.numL (n + 1)).length ≤ 20 := TL.numL_len (by decide) h
    have hlen : (Str.ofString (toString (Int.negSucc n))).length ≤ 21 := by
      rw [TL.len_tl, show TL.tl (Str.ofString (toString (Int.negSucc n))) = 45 :: TL.numL (n + 1) from neg_text n, List.length_cons]
      omega
    refine ⟨?_, hlen⟩
    rw [PySem.intText_neg (neg_text n) (TL.numL_digits _) (TL.numL_ne _) (by omega), TL.numL_val]
    rfl
end Own

set_option Elab.async false
set_option maxRecDepth 100000
set_option maxHeartbeats 4000000
set_option linter.all false
/-! Trees of objects that the frame may change: a node stands at its address, its kids are trees or data. -/
namespace Own
open PySem PySem.Spec PyProof.Rows L2
/-- what a node is, but for its kids -/
inductive Sh where
  | lst | dK (ks : List Key) | dT (ks : List (List Key)) | ins (C : Addr) (ms : List Str)
inductive Tr where
  | imm (d : D) | node (s : Sh) (ts : List Tr)
/-- the object of a node -/
def Sh.obj (dx : Addr) : Sh → List V → HO
  | .lst, vs => .lst vs
  | .dK ks, vs => .dK (ks.zip vs)
  | .dT ks, vs => .dT (ks.zip vs)
  | .ins C ms, vs => .ins C dx (ms.zip vs)
def Sh.ok : Sh → Nat → Prop
  | .lst, _ => True
  | .dK ks, n => ks.length = n
  | .dT ks, n => ks.length = n
  | .ins _ ms, n => ms.length = n
/-- the other cells of a node -/
def Sh.more (dx : Addr) : Sh → List Addr
  | .ins _ _ => [dx]
  | _ => []
mutual
inductive Ow (K : PySem.W.Frag) (I H : Hp) : V → Tr → List Addr → Prop
  | imm {v : V} {d : D} : At K I v d → Ow K I H v (.imm d) []
  | node {a dx : Addr} {s : Sh} {vs : List V} {ts : List Tr} {fp : List Addr} : H a = some (s.obj dx vs) → s.ok vs.length → (∀ q ∈ s.more dx, H q = some (.own a)) → Ows K I H vs ts fp → Ow K I H (.ref a) (.node s ts) (a :: s.more dx ++ fp)
inductive Ows (K : PySem.W.Frag) (I H : Hp) : List V → List Tr → List Addr → Prop
  | nil : Ows K I H [] [] []
  | cons {v : V} {vs : List V} {t : Tr} {ts : List Tr} {f g : List Addr} : Ow K I H v t f → Ows K I H vs ts g → Ows K I H (v :: vs) (t :: ts) (f ++ g)
end
section
variable {K : PySem.W.Frag}
mutual
theorem Ow.st {I I' H H' : Hp} {v : V} {t : Tr} {fp : List Addr} (h : Ow K I H v t fp) (e : Ext I I') (hf : ∀ q ∈ fp, H' q = H q) : Ow K I' H' v t fp := by
  cases h with
  | imm a => exact .imm (a.mono e)
  | node h1 h2 h3 h4 =>
    exact .node (by rw [hf _ (by simp)]; exact h1) h2 (fun q hq => by rw [hf q (by simp [hq])]; exact h3 q hq) (Ows.st h4 e fun q hq => hf q (by simp [hq]))
theorem Ows.st {I I' H H' : Hp} {vs : List V} {ts : List Tr} {fp : List Addr} (h : Ows K I H vs ts fp) (e : Ext I I') (hf : ∀ q ∈ fp, H' q = H q) : Ows K I' H' vs ts fp := by
  cases h with
  | nil => exact .nil
  | cons h1 h2 => exact .cons (Ow.st h1 e fun q hq => hf q (List.mem_append_left _ hq)) (Ows.st h2 e fun q hq => hf q (List.mem_append_right _ hq))
end
theorem Ows.len {I H : Hp} : ∀ {vs : List V} {ts : List Tr} {fp : List Addr}, Ows K I H vs ts fp → vs.length = ts.length
  | _, _, _, .nil => rfl
  | _, _, _, .cons _ h => by rw [List.length_cons, List.length_cons, h.len]
/-- the kid at the place j, and another in its place -/
theorem Ows.at {I H : Hp} : ∀ {vs : List V} {ts : List Tr} {fp : List Addr}, Ows K I H vs ts fp → ∀ {j : Nat} {t : Tr}, ts[j]? = some t → ∃ v f g, vs[j]? = some v ∧ fp.Perm (f ++ g) ∧ Ow K I H v t f ∧
    ∀ (I' H' : Hp) (w : V) (t' : Tr) (f' : List Addr), Ext I I' → (∀ q ∈ g, H' q = H q) → Ow K I' H' w t' f' → ∃ fp', fp'.Perm (f' ++ g) ∧ Ows K I' H' (vs.set j w) (ts.set j t') fp'
  | _, _, _, .nil, j, t, h => by simp at h
  | _, _, _, @Ows.cons _ _ _ v vs t0 ts f g h1 h2, 0, t, h => by
    cases Option.some.inj h
    exact ⟨v, f, g, rfl, List.Perm.refl _, h1, fun I' H' w t' f' e hg ho => ⟨f' ++ g, List.Perm.refl _, .cons ho (h2.st e hg)⟩⟩
  | _, _, _, @Ows.cons _ _ _ v vs t0 ts f g h1 h2, j + 1, t, h => by
    obtain ⟨v', f1, g1, e1, p1, o1, k1⟩ := h2.at (j := j) (by simpa using h)
    refine ⟨v', f1, f ++ g1, by simpa using e1, ?_, o1, fun I' H' w t' f' e hg ho => ?_⟩
    · exact (p1.append_left f).trans (by rw [← List.append_assoc, ← List.append_assoc]; exact (List.perm_append_comm).append_right g1)
    · obtain ⟨fp', p2, o2⟩ := k1 I' H' w t' f' e (fun q hq => hg q (List.mem_append_right _ hq)) ho
      refine ⟨f ++ fp', ?_, .cons (h1.st e fun q hq => hg q (List.mem_append_left _ hq)) o2⟩
      exact (p2.append_left f).trans (by rw [← List.append_assoc, ← List.append_assoc]; exact (List.perm_append_comm).append_right g1)
/-- a tree as what a slot has of its own, at the address that it always had -/
def resN (K : PySem.W.Frag) (v0 : V) (t : Tr) : Res where
  φ I H v fp := v = v0 ∧ Ow K I H v t fp
  st := fun h e hf => ⟨h.1, h.2.st e hf⟩
/-- the tree behind a path of places -/
def Tr.get : Tr → List Nat → Option Tr
  | t, [] => some t
  | .imm _, _ :: _ => none
  | .node _ ts, j :: π => ts[j]?.bind fun t => t.get π
def Tr.put : Tr → List Nat → Tr → Tr
  | _, [], t' => t'
  | .imm d, _ :: _, _ => .imm d
  | .node s ts, j :: π, t' => .node s (match ts[j]? with
    | some t => ts.set j (t.put π t')
    | none => ts)
theorem set_same {α : Type} : ∀ {xs : List α} {j : Nat} {x : α}, xs[j]? = some x → xs.set j x = xs := fun {xs j x} h => by
  refine List.ext_getElem? fun i => ?_
  by_cases e : j = i
  · subst e
    rw [List.getElem?_set_self (List.getElem?_eq_some_iff.mp h).1, h]
  · rw [List.getElem?_set_ne e]
theorem perm3 {A f g g2 : List Addr} : (A ++ (f ++ g ++ g2)).Perm (f ++ (A ++ (g ++ g2))) := by
  rw [List.append_assoc f g g2, ← List.append_assoc A f, ← List.append_assoc f A]
  exact List.perm_append_comm.append_right _
/-- a kid as the object has it -/
def Sh.kid : Sh → HO → Nat → Option V
  | .lst, .lst vs, j => vs[j]?
  | .dK _, .dK ws, j => ws[j]?.map (·.2)
  | .dT _, .dT ws, j => ws[j]?.map (·.2)
  | .ins _ _, .ins _ _ ws, j => ws[j]?.map (·.2)
  | _, _, _ => none
theorem zip_snd {κ : Type} : ∀ {ks : List κ} {vs : List V} {j : Nat}, ks.length = vs.length → (ks.zip vs)[j]?.map (·.2) = vs[j]?
  | [], [], j, _ => by simp
  | [], _ :: _, _, h => by simp at h
  | _ :: _, [], _, h => by simp at h
  | k :: ks, v :: vs, 0, _ => rfl
  | k :: ks, v :: vs, j + 1, h => by
    rw [List.zip_cons_cons, List.getElem?_cons_succ, List.getElem?_cons_succ]
    exact zip_snd (by simpa using h)
theorem Sh.kid_obj {s : Sh} {dx : Addr} {vs : List V} (h : s.ok vs.length) {j : Nat} : s.kid (s.obj dx vs) j = vs[j]? := by
  cases s with
  | lst => rfl
  | dK ks => exact zip_snd h
  | dT ks => exact zip_snd h
  | ins C ms => exact zip_snd h
/-- what stands behind a path -/
def lookP (H : Hp) : V → Tr → List Nat → Option V
  | v, _, [] => some v
  | .ref a, .node s ts, j :: π => (H a).bind fun o => (s.kid o j).bind fun w => match ts[j]? with
    | some t => lookP H w t π
    | none => none
  | _, _, _ :: _ => none
/-- the tree behind a path stands by itself; another may be put in its place, at the same address -/
theorem Ow.get {I H : Hp} : ∀ {π : List Nat} {v : V} {t t1 : Tr} {fp : List Addr}, Ow K I H v t fp → t.get π = some t1 → ∃ v1 f g, lookP H v t π = some v1 ∧ fp.Perm (f ++ g) ∧ Ow K I H v1 t1 f ∧
    ∀ (I' H' : Hp) (t' : Tr) (f' : List Addr), Ext I I' → (∀ q ∈ g, H' q = H q) → Ow K I' H' v1 t' f' → ∃ fp', fp'.Perm (f' ++ g) ∧ Ow K I' H' v (t.put π t') fp'
  | [], v, t, t1, fp, h, e => by
    have e : some t = some t1 := by
      cases t <;> exact e
    cases e
    exact ⟨v, fp, [], by cases v <;> cases t <;> rfl, by rw [List.append_nil], h, fun I' H' t' f' _ _ ho => ⟨f', by rw [List.append_nil], by cases t <;> exact ho⟩⟩
  | j :: π, v, .imm d, t1, fp, h, e => by cases e
  | j :: π, v, .node s ts, t1, fp, h, e => by
    have e : (ts[j]?.bind fun t => t.get π) = some t1 := e
    cases hj : ts[j]? with
    | none => rw [hj] at e; cases e
    | some t =>
      rw [hj] at e
      cases h with
      | @node a dx _ vs _ fp h1 h2 h3 h4 =>
        obtain ⟨v2, f2, g2, hv2, p2, o2, k2⟩ := h4.at hj
        obtain ⟨v1, f, g, hl, p1, o1, k1⟩ := Ow.get (π := π) o2 e
        refine ⟨v1, f, (a :: s.more dx) ++ (g ++ g2), ?_, ?_, o1, fun I' H' t' f' ei hg ho => ?_⟩
        · show ((H a).bind fun o => (s.kid o j).bind fun w => match ts[j]? with
            | some t => lookP H w t π
            | none => none) = some v1
          rw [h1, hj]
          show ((s.kid (s.obj dx vs) j).bind fun w => lookP H w t π) = some v1
          rw [Sh.kid_obj h2, hv2]
          exact hl
        · refine (p2.append_left (a :: s.more dx)).trans ?_
          exact ((p1.append_right g2).append_left (a :: s.more dx)).trans perm3
        · obtain ⟨f3, p3, o3⟩ := k1 I' H' t' f' ei (fun q hq => hg q (by simp [hq])) ho
          obtain ⟨f4, p4, o4⟩ := k2 I' H' v2 (t.put π t') f3 ei (fun q hq => hg q (by simp [hq])) o3
          rw [set_same hv2] at o4
          refine ⟨(a :: s.more dx) ++ f4, ?_, ?_⟩
          · refine (p4.append_left (a :: s.more dx)).trans ?_
            exact ((p3.append_right g2).append_left (a :: s.more dx)).trans perm3
          · have hp : (Tr.node s ts).put (j :: π) t' = .node s (ts.set j (t.put π t')) := by
              show Tr.node s _ = _
              rw [hj]
            rw [hp]
            exact .node (by rw [hg a (by simp)]; exact h1) h2 (fun q hq => by rw [hg q (by simp [hq])]; exact h3 q hq) o4
/-! ### trees in slots -/
variable {F : Fr} {ρ : List Slot} {P : Ps} {te ta tk tv : TE} {d : D}
/-- the address of a tree in a slot, behind a path -/
structure GvW (K : PySem.W.Frag) (F : Fr) (ρ : List Slot) (te : TE) (i : Nat) (v0 : V) (t : Tr) (π : List Nat) : Prop where
  run : ∀ {I H : Hp} {σ : L2.St} {Q : VK}, Sta K F ρ I σ H → (∀ v I' H', Stp F.L I H I' H' → lookP H' v0 t π = some v → Q v H') → te σ H Q
/-- the tree that a slot has, in a state -/
theorem Sta.tree {I H : Hp} {σ : L2.St} (s : Sta K F ρ I σ H) {i : Nat} {v0 : V} {t : Tr} (h : ρ[i]? = some (.own (resN K v0 t))) :
    σ[i]? = some (some v0) ∧ ∃ f, Ow K I H v0 t f ∧ (∀ q ∈ f, I q = none ∧ H q ≠ none ∧ F.H0 q = none) ∧ f.Nodup ∧
      ∀ (t' : Tr) (f' : List Addr) (H' : Hp), (∀ q ∈ f', q ∈ f ∨ H q = none) → f'.Nodup → (∀ q, q ∉ f → q ∉ f' → H' q = H q) → (∀ q ∈ f', H' q ≠ none) → Ow K I H' v0 t' f' → Sta K F (ρ.set i (.own (resN K v0 t'))) I σ H' := by
  obtain ⟨v, f, h1, ⟨rfl, h2⟩, h3, h4, h5⟩ := s.put (H' := H) h
  exact ⟨h1, f, h2, h3, h4, fun t' f' H' a b c e o => h5 _ f' H' a b c e ⟨rfl, o⟩⟩
/-- what stands behind a path stays through a step -/
theorem Sta.path {I H I' H' : Hp} {σ : L2.St} (s : Sta K F ρ I σ H) (st : Stp F.L I H I' H') {i : Nat} {v0 v : V} {t t1 : Tr} {π : List Nat} (h : ρ[i]? = some (.own (resN K v0 t))) (e : t.get π = some t1) (hl : lookP H v0 t π = some v) : lookP H' v0 t π = some v := by
  obtain ⟨_, f, o, k, _⟩ := s.tree h
  obtain ⟨v1, f1, g1, l1, _⟩ := o.get e
  rw [hl] at l1
  cases l1
  have same : ∀ q ∈ f, H' q = H q := fun q hq => by
    cases z : H q with
    | none => exact absurd z (k q hq).2.1
    | some ob => exact st.h q ob z
  have gen : ∀ {π : List Nat} {w : V} {t t1 : Tr} {f : List Addr}, Ow K I H w t f → (∀ q ∈ f, H' q = H q) → t.get π = some t1 → lookP H' w t π = lookP H w t π := by
    intro π
    induction π with
    | nil =>
      intro w t t1 f _ _ _
      cases w <;> cases t <;> rfl
    | cons j π ih =>
      intro w t t1 f o hs e
      cases o with
      | imm a => cases e
      | @node a dx s vs ts fp h1 h2 h3 h4 =>
        have e : (ts[j]?.bind fun t => t.get π) = some t1 := e
        cases hj : ts[j]? with
        | none => rw [hj] at e; cases e
        | some t =>
          rw [hj] at e
          obtain ⟨v2, f2, g2, hv2, p2, o2, _⟩ := h4.at hj
          have := ih o2 (fun q hq => hs q (by
            have := p2.mem_iff.mpr (List.mem_append_left g2 hq)
            simp [this])) e
          show ((H' a).bind fun o => (s.kid o j).bind fun w => match ts[j]? with
            | some t => lookP H' w t π
            | none => none) = ((H a).bind fun o => (s.kid o j).bind fun w => match ts[j]? with
            | some t => lookP H w t π
            | none => none)
          rw [hs a (by simp), h1, hj]
          show ((s.kid (s.obj dx vs) j).bind fun w => lookP H' w t π) = ((s.kid (s.obj dx vs) j).bind fun w => lookP H w t π)
          rw [Sh.kid_obj h2, hv2]
          exact this
  rw [gen o same e]
  exact hl
theorem GvW.var {i : Nat} {v0 : V} {t : Tr} (h : ρ[i]? = some (.own (resN K v0 t))) : GvW K F ρ (tVar i) i v0 t [] := ⟨fun s k => by
  obtain ⟨h1, _⟩ := s.tree h
  exact ⟨v0, h1, k v0 _ _ (.refl s.ok.u) (by cases v0 <;> cases t <;> rfl)⟩⟩
end
end Own

set_option Elab.async false
set_option maxRecDepth 100000
set_option maxHeartbeats 4000000
set_option linter.all false
/-! What is read from a tree in a slot, and stored in it. -/
namespace Own
open PySem PySem.Spec PyProof.Rows L2
section
variable {K : PySem.W.Frag} {F : Fr} {ρ : List Slot} {P : Ps} {te ta tk tv : TE} {d : D} {I H : Hp} {σ : L2.St} {i : Nat} {v0 : V} {t : Tr} {π : List Nat} {ts : List Tr}
theorem get_snoc {j : Nat} : ∀ {π : List Nat} {t : Tr}, t.get (π ++ [j]) = (t.get π).bind fun t1 => t1.get [j]
  | [], t => by cases t <;> rfl
  | k :: π, .imm d => rfl
  | k :: π, .node s ts => by
    show (ts[k]?.bind fun t => t.get (π ++ [j])) = ((ts[k]?.bind fun t => t.get π).bind fun t1 => t1.get [j])
    cases ts[k]? with
    | none => rfl
    | some t => exact get_snoc
theorem lookP_snoc {j : Nat} : ∀ {π : List Nat} {v : V} {t : Tr}, lookP H v t (π ++ [j]) = (lookP H v t π).bind fun w => (t.get π).bind fun t1 => lookP H w t1 [j]
  | [], v, t => by cases v <;> cases t <;> rfl
  | k :: π, v, .imm d => by cases v <;> rfl
  | k :: π, v, .node s ts => by
    cases v with
    | ref a =>
      show ((H a).bind fun o => (s.kid o k).bind fun w => match ts[k]? with
        | some t => lookP H w t (π ++ [j])
        | none => none) = ((H a).bind fun o => (s.kid o k).bind fun w => match ts[k]? with
        | some t => lookP H w t π
        | none => none).bind fun w => (ts[k]?.bind fun t => t.get π).bind fun t1 => lookP H w t1 [j]
      cases H a with
      | none => rfl
      | some o =>
        show ((s.kid o k).bind fun w => match ts[k]? with
          | some t => lookP H w t (π ++ [j])
          | none => none) = ((s.kid o k).bind fun w => match ts[k]? with
          | some t => lookP H w t π
          | none => none).bind fun w => (ts[k]?.bind fun t => t.get π).bind fun t1 => lookP H w t1 [j]
        cases s.kid o k with
        | none => rfl
        | some w =>
          cases ts[k]? with
          | none => rfl
          | some t => exact lookP_snoc
    | _ => rfl
/-- the node behind a path, and what may be put in its place -/
theorem Sta.store (S : Sta K F ρ I σ H) {s : Sh} {v : V} (hρ : ρ[i]? = some (.own (resN K v0 t))) (ht : t.get π = some (.node s ts)) (lk : lookP H v0 t π = some v) :
    ∃ a dx vs fp, v = .ref a ∧ H a = some (s.obj dx vs) ∧ s.ok vs.length ∧ Ows K I H vs ts fp ∧ (∀ q ∈ fp, q ≠ a ∧ H q ≠ none) ∧ fp.Nodup ∧
      ∀ (s' : Sh) (vs' : List V) (ts' : List Tr) (fp' : List Addr), s'.more dx = s.more dx → s'.ok vs'.length → (∀ q ∈ fp', q ∈ fp) → fp'.Nodup → Ows K I (L2.upd H a (s'.obj dx vs')) vs' ts' fp' →
        Sta K F (ρ.set i (.own (resN K v0 (t.put π (.node s' ts'))))) I σ (L2.upd H a (s'.obj dx vs')) := by
  obtain ⟨hσ, f, o, hf, nf, hput⟩ := S.tree hρ
  obtain ⟨v1, f1, g1, lk1, p1, o1, k1⟩ := o.get ht
  rw [lk] at lk1
  cases lk1
  cases o1 with
  | @node a dx _ vs _ fp h1 h2 h3 h4 =>
    have nd : ((a :: s.more dx ++ fp) ++ g1).Nodup := p1.nodup_iff.mp nf
    have nd1 := List.nodup_append.mp nd
    have nd2 := List.nodup_append.mp nd1.1
    have na : ∀ q ∈ fp, q ≠ a := fun q hq e => nd2.2.2 a List.mem_cons_self q hq e.symm
    have nm : ∀ q ∈ s.more dx, q ≠ a := fun q hq e => (List.nodup_cons.mp nd2.1).1 (e ▸ hq)
    have ng : ∀ q ∈ g1, q ≠ a := fun q hq e => nd1.2.2 a (by simp) q hq e.symm
    refine ⟨a, dx, vs, fp, rfl, h1, h2, h4, fun q hq => ⟨na q hq, (hf q (p1.mem_iff.mpr (by simp [hq]))).2.1⟩, nd2.2.1, fun s' vs' ts' fp' hm hok hsub hnd ho => ?_⟩
    have on : Ow K I (L2.upd H a (s'.obj dx vs')) (.ref a) (.node s' ts') (a :: s'.more dx ++ fp') := .node upd_same hok (fun q hq => by
      rw [hm] at hq
      rw [upd_ne (nm q hq)]
      exact h3 q hq) ho
    obtain ⟨f3, p3, o3⟩ := k1 I _ _ _ (Ext.refl' _) (fun q hq => upd_ne (ng q hq)) on
    rw [hm] at p3
    have sub : ∀ q ∈ f3, q ∈ f := fun q hq => by
      have := p3.mem_iff.mp hq
      refine p1.mem_iff.mpr ?_
      rcases List.mem_append.mp this with z | z
      · rcases List.mem_append.mp z with w | w
        · exact List.mem_append_left _ (List.mem_append_left _ w)
        · exact List.mem_append_left _ (List.mem_append_right _ (hsub q w))
      · exact List.mem_append_right _ z
    refine hput _ f3 _ (fun q hq => .inl (sub q hq)) ?_ (fun q hq _ => upd_ne fun e => hq (e ▸ p1.mem_iff.mpr (by simp))) (fun q hq => ?_) o3
    · refine p3.nodup_iff.mpr (List.nodup_append.mpr ⟨List.nodup_append.mpr ⟨nd2.1, hnd, fun x hx y hy => nd2.2.2 x hx y (hsub y hy)⟩, nd1.2.1, fun x hx y hy => ?_⟩)
      rcases List.mem_append.mp hx with w | w
      · exact nd1.2.2 x (List.mem_append_left _ w) y hy
      · exact nd1.2.2 x (List.mem_append_right _ (hsub x w)) y hy
    · by_cases e : q = a
      · rw [e, upd_same]
        exact fun z => nomatch z
      · rw [upd_ne e]
        exact (hf q (sub q hq)).2.1
theorem valV_zip {κ : Type} [DecidableEq κ] : ∀ {ks : List κ} {vs : List V} {j : Nat} {k : κ}, ks.Nodup → ks[j]? = some k → ks.length = vs.length → valV (ks.zip vs) k = vs[j]?
  | [], _, j, k, _, h, _ => by simp at h
  | _ :: _, [], _, _, _, _, h => by simp at h
  | x :: ks, v :: vs, 0, k, _, h, _ => by
    cases Option.some.inj h
    unfold valV
    rw [List.zip_cons_cons, List.find?_cons_of_pos (by simp)]
    rfl
  | x :: ks, v :: vs, j + 1, k, nd, h, hl => by
    have h : ks[j]? = some k := by simpa using h
    have hne : x ≠ k := fun e => (List.nodup_cons.mp nd).1 (e ▸ List.mem_of_getElem? h)
    have := valV_zip (List.nodup_cons.mp nd).2 h (by simpa using hl)
    unfold valV at this ⊢
    rw [List.zip_cons_cons, List.find?_cons_of_neg (by simpa using hne), this, List.getElem?_cons_succ]
theorem zip_map_old {κ : Type} [DecidableEq κ] {k : κ} {v : V} : ∀ {ks : List κ} {vs : List V} {j : Nat}, ks.Nodup → ks[j]? = some k → ks.length = vs.length → (ks.zip vs).map (fun kv => if kv.1 = k then (kv.1, v) else kv) = ks.zip (vs.set j v)
  | [], _, j, _, h, _ => by simp at h
  | _ :: _, [], _, _, _, h => by simp at h
  | x :: ks, w :: vs, 0, nd, h, hl => by
    cases Option.some.inj h
    rw [List.zip_cons_cons, List.map_cons, if_pos rfl, List.set_cons_zero, List.zip_cons_cons]
    congr 1
    refine (List.map_congr_left fun p hp => ?_).trans (List.map_id _)
    have : p.1 ∈ ks := (List.of_mem_zip hp).1
    have hne : ¬ p.1 = k := fun e => (List.nodup_cons.mp nd).1 (e ▸ this)
    rw [if_neg hne]
    rfl
  | x :: ks, w :: vs, j + 1, nd, h, hl => by
    have h : ks[j]? = some k := by simpa using h
    have hne : x ≠ k := fun e => (List.nodup_cons.mp nd).1 (e ▸ List.mem_of_getElem? h)
    rw [List.zip_cons_cons, List.map_cons, if_neg hne, List.set_cons_succ, List.zip_cons_cons, zip_map_old (List.nodup_cons.mp nd).2 h (by simpa using hl)]
theorem any_zip {κ : Type} [DecidableEq κ] {k : κ} : ∀ {ks : List κ} {vs : List V}, ks.length = vs.length → ((ks.zip vs).any fun kv => decide (kv.1 = k)) = decide (k ∈ ks)
  | [], [], _ => by simp
  | [], _ :: _, h => by simp at h
  | _ :: _, [], h => by simp at h
  | x :: ks, v :: vs, h => by
    rw [List.zip_cons_cons, List.any_cons, any_zip (by simpa using h)]
    by_cases e : x = k
    · simp [e]
    · have e2 : ¬ k = x := fun z => e z.symm
      simp [e, e2]
theorem putK_old {κ : Type} [DecidableEq κ] {k : κ} {v : V} {ks : List κ} {vs : List V} {j : Nat} (nd : ks.Nodup) (h : ks[j]? = some k) (hl : ks.length = vs.length) : putK (ks.zip vs) k v = ks.zip (vs.set j v) := by
  unfold putK
  rw [any_zip hl, if_pos (decide_eq_true (List.mem_of_getElem? h)), zip_map_old nd h hl]
theorem putK_new {κ : Type} [DecidableEq κ] {k : κ} {v : V} {ks : List κ} {vs : List V} (h : k ∉ ks) (hl : ks.length = vs.length) : putK (ks.zip vs) k v = (ks ++ [k]).zip (vs ++ [v]) := by
  unfold putK
  rw [any_zip hl, if_neg (by simpa using h), List.zip_append hl]
  rfl
theorem Ows.snoc {I H : Hp} {v : V} {d : D} (a : At K I v d) : ∀ {vs : List V} {ts : List Tr} {fp : List Addr}, Ows K I H vs ts fp → Ows K I H (vs ++ [v]) (ts ++ [.imm d]) fp
  | _, _, _, .nil => .cons (f := []) (.imm a) .nil
  | _, _, _, .cons h1 h2 => .cons h1 (h2.snoc a)
/-! ### reading -/
theorem GvE.ofW (h : GvW K F ρ te i v0 t π) (hρ : ρ[i]? = some (.own (resN K v0 t))) (ht : t.get π = some (.imm d)) : GvE K F ρ te d := ⟨fun s k => h.run s fun v I1 H1 s1 l1 => by
  obtain ⟨_, f, o, _⟩ := (s.step s1).tree hρ
  obtain ⟨v1, f1, g1, lk, _, o1, _⟩ := o.get ht
  rw [l1] at lk
  cases lk
  cases o1 with
  | imm a => exact k _ _ _ s1 a⟩
theorem GvW.dget {ks : List Key} {k : Key} {j : Nat} (h : GvW K F ρ ta i v0 t π) (hρ : ρ[i]? = some (.own (resN K v0 t))) (ht : t.get π = some (.node (.dK ks) ts)) (hk : GvE K F ρ tk (ofV (kV k))) (nd : ks.Nodup) (hj : ks[j]? = some k) : GvW K F ρ (tDGet ta tk) i v0 t (π ++ [j]) := ⟨fun s kk =>
  h.run s fun x I1 H1 s1 l1 => hk.run (s.step s1) fun y I2 H2 s2 a2 => by
    have l2 := (s.step s1).path s2 hρ ht l1
    obtain ⟨a, dx, vs, fp, rfl, h1, h2, h4, _⟩ := ((s.step s1).step s2).store hρ ht l2
    have hl : ks.length = vs.length := h2
    have hjv : j < vs.length := by
      have := (List.getElem?_eq_some_iff.mp hj).1
      omega
    have hv := List.getElem?_eq_getElem hjv
    have hjt : j < ts.length := by rw [← h4.len]; exact hjv
    refine ⟨a, vs[j], rfl, .inl ⟨ks.zip vs, k, .inl h1, key_at a2, by rw [valV_zip nd hj hl, hv]⟩, kk _ I2 H2 (s1.trans s2) ?_⟩
    rw [lookP_snoc, l2, ht]
    show ((H2 a).bind fun o => ((Sh.dK ks).kid o j).bind fun w => match ts[j]? with
      | some t => lookP H2 w t []
      | none => none) = some vs[j]
    rw [h1]
    show (((Sh.dK ks).kid ((Sh.dK ks).obj dx vs) j).bind fun w => match ts[j]? with
      | some t => lookP H2 w t []
      | none => none) = some vs[j]
    rw [Sh.kid_obj h2, hv, List.getElem?_eq_getElem hjt]
    show lookP H2 vs[j] ts[j] [] = some vs[j]
    cases vs[j] <;> cases ts[j] <;> rfl⟩
/-! ### stores -/
namespace Blk
theorem dputW {ks : List Key} {k : Key} {j : Nat} (h : GvW K F ρ ta i v0 t π) (hρ : ρ[i]? = some (.own (resN K v0 t))) (ht : t.get π = some (.node (.dK ks) ts)) (hv : GvE K F ρ tv d) (hk : GvE K F ρ tk (ofV (kV k))) (nd : ks.Nodup) (hj : ks[j]? = some k) (hl : ks.length < 16777216)
    (q : P.nx (ρ.set i (.own (resN K v0 (t.put π (.node (.dK ks) (ts.set j (.imm d)))))))) : Blk K F ρ (sDPut ta tk tv) P := ⟨fun {I H σ E} s e => hv.run s fun v I1 H1 s1 a1 =>
  h.run (s.step s1) fun x I2 H2 s2 l2 => hk.run ((s.step s1).step s2) fun y I3 H3 s3 a3 => by
    have l3 := ((s.step s1).step s2).path s3 hρ ht l2
    obtain ⟨a, dx, vs, fp, rfl, h1, h2, h4, hfp, nfp, put⟩ := (((s.step s1).step s2).step s3).store hρ ht l3
    have hlen : ks.length = vs.length := h2
    have hjt : j < ts.length := by
      rw [← h4.len]
      have := (List.getElem?_eq_some_iff.mp hj).1
      omega
    obtain ⟨w, f2, g2, hw, p2, o2, k2⟩ := h4.at (List.getElem?_eq_getElem hjt)
    obtain ⟨f3, p3, o3⟩ := k2 I3 (L2.upd H3 a (.dK (ks.zip (vs.set j v)))) v (.imm d) [] (Ext.refl' _) (fun q hq => upd_ne (hfp q (p2.mem_iff.mpr (List.mem_append_right _ hq))).1) (.imm (a1.mono (ext_trans s2.i s3.i)))
    have z := put (.dK ks) (vs.set j v) (ts.set j (.imm d)) f3 rfl (by show ks.length = _; rw [List.length_set]; exact hlen) (fun q hq => p2.mem_iff.mpr (List.mem_append_right _ (p3.mem_iff.mp hq))) (p3.nodup_iff.mpr (List.nodup_append.mp (p2.nodup_iff.mp nfp)).2.1) o3
    exact ⟨a, _, rfl, .inl ⟨ks.zip vs, k, h1, key_at a3, by rw [List.length_zip, ← hlen, Nat.min_self]; exact hl, rfl⟩, e.nx q (ext_trans s1.i (ext_trans s2.i s3.i)) (by rw [putK_old nd hj hlen]; exact z)⟩⟩
theorem dputWn {ks : List Key} {k : Key} (h : GvW K F ρ ta i v0 t π) (hρ : ρ[i]? = some (.own (resN K v0 t))) (ht : t.get π = some (.node (.dK ks) ts)) (hv : GvE K F ρ tv d) (hk : GvE K F ρ tk (ofV (kV k))) (hj : k ∉ ks) (hl : ks.length < 16777216)
    (q : P.nx (ρ.set i (.own (resN K v0 (t.put π (.node (.dK (ks ++ [k])) (ts ++ [.imm d]))))))) : Blk K F ρ (sDPut ta tk tv) P := ⟨fun {I H σ E} s e => hv.run s fun v I1 H1 s1 a1 =>
  h.run (s.step s1) fun x I2 H2 s2 l2 => hk.run ((s.step s1).step s2) fun y I3 H3 s3 a3 => by
    have l3 := ((s.step s1).step s2).path s3 hρ ht l2
    obtain ⟨a, dx, vs, fp, rfl, h1, h2, h4, hfp, nfp, put⟩ := (((s.step s1).step s2).step s3).store hρ ht l3
    have hlen : ks.length = vs.length := h2
    have z := put (.dK (ks ++ [k])) (vs ++ [v]) (ts ++ [.imm d]) fp rfl (by show (ks ++ [k]).length = _; rw [List.length_append, List.length_append, hlen]; rfl) (fun q hq => hq) nfp ((h4.st (Ext.refl' _) fun q hq => upd_ne (hfp q hq).1).snoc (a1.mono (ext_trans s2.i s3.i)))
    exact ⟨a, _, rfl, .inl ⟨ks.zip vs, k, h1, key_at a3, by rw [List.length_zip, ← hlen, Nat.min_self]; exact hl, rfl⟩, e.nx q (ext_trans s1.i (ext_trans s2.i s3.i)) (by rw [putK_new hj hlen]; exact z)⟩⟩
theorem appendW (h : GvW K F ρ ta i v0 t π) (hρ : ρ[i]? = some (.own (resN K v0 t))) (ht : t.get π = some (.node .lst ts)) (hv : GvE K F ρ tv d) (hl : ts.length < 16777216)
    (q : P.nx (ρ.set i (.own (resN K v0 (t.put π (.node .lst (ts ++ [.imm d]))))))) : Blk K F ρ (tDrop (tBM K "list" rAppend ta (tCons tv tNil))) P := ⟨fun {I H σ E} s e =>
  h.run s fun x I1 H1 s1 l1 => by
    obtain ⟨a, dx, vs, fp, rfl, h1, _⟩ := (s.step s1).store hρ ht l1
    refine ⟨tyLst h1, hv.run (s.step s1) fun y I2 H2 s2 a2 => ?_⟩
    have l2 := (s.step s1).path s2 hρ ht l1
    obtain ⟨a', dx', vs', fp', e1, h1', h2, h4, hfp, nfp, put⟩ := ((s.step s1).step s2).store hρ ht l2
    cases e1
    have z := put .lst (vs' ++ [y]) (ts ++ [.imm d]) fp' rfl trivial (fun q hq => hq) nfp ((h4.st (Ext.refl' _) fun q hq => upd_ne (hfp q hq).1).snoc a2)
    exact ⟨a, vs', y, rfl, rfl, h1', by rw [h4.len]; exact hl, e.nx q (ext_trans s1.i s2.i) z⟩⟩
end Blk
end
end Own

set_option Elab.async false
set_option maxRecDepth 100000
set_option maxHeartbeats 4000000
set_option linter.all false
/-! Defs that are handed a tree and change it. -/
namespace Own
open PySem PySem.Spec PyProof.Rows L2
section
variable {K : PySem.W.Frag} {F : Fr} {ρ ρ1 : List Slot} {P : Ps} {te : TE} {tA : TA} {d e : D} {ds : List D} {I H : Hp} {σ : L2.St} {i j : Nat} {v0 : V} {t t' : Tr}
/-- an expression that changes the slots -/
structure GvX (K : PySem.W.Frag) (F : Fr) (ρ : List Slot) (te : TE) (d : D) (ρ1 : List Slot) : Prop where
  run : ∀ {I H : Hp} {σ : L2.St} {Q : VK}, Sta K F ρ I σ H → (∀ v I' H', Ext I I' → Sta K F ρ1 I' σ H' → At K I' v d → Q v H') → te σ H Q
theorem GvX.of (h : GvE K F ρ te d) : GvX K F ρ te d ρ := ⟨fun s k => h.run s fun v I1 H1 s1 a1 => k v I1 H1 s1.i (s.step s1) a1⟩
namespace Blk
theorem setX (h : GvX K F ρ te d ρ1) (q : P.nx (ρ1.set i (.imm d))) : Blk K F ρ (tAsg te (gName i)) P := ⟨fun s e => h.run s fun v I1 H1 x1 s1 a1 => e.nx q x1 (s1.set a1 i)⟩
theorem exprX (h : GvX K F ρ te d ρ1) (q : P.nx ρ1) : Blk K F ρ (tDrop te) P := ⟨fun s e => h.run s fun v I1 H1 x1 s1 a1 => e.nx q x1 s1⟩
theorem retX (h : GvX K F ρ te d ρ1) (q : P.rt ρ1 d) : Blk K F ρ (tRet te) P := ⟨fun s e => h.run s fun v I1 H1 x1 s1 a1 => e.rt q x1 s1 a1⟩
end Blk
/-- arguments, one of which is the tree in the slot i -/
structure GvM (K : PySem.W.Frag) (F : Fr) (ρ : List Slot) (tA : TA) (i : Nat) (v0 : V) (j : Nat) (ds : List D) : Prop where
  run : ∀ {I H : Hp} {σ : L2.St} {Q : List V → Hp → Prop}, Sta K F ρ I σ H → (∀ us ws I' H', Stp F.L I H I' H' → us.length = j → Ats K I' us (ds.take j) → Ats K I' ws (ds.drop j) → Q (us ++ v0 :: ws) H') → tA σ H Q
theorem GvM.here (hρ : ρ[i]? = some (.own (resN K v0 t))) (h : GvA K F ρ tA ds) : GvM K F ρ (tCons (tVar i) tA) i v0 0 ds := ⟨fun s k => by
  obtain ⟨h1, _⟩ := s.tree hρ
  exact ⟨v0, h1, h.run s fun ws I1 H1 s1 a1 => k [] ws I1 H1 s1 rfl .nil a1⟩⟩
theorem GvM.next (he : GvE K F ρ te d) (h : GvM K F ρ tA i v0 j ds) : GvM K F ρ (tCons te tA) i v0 (j + 1) (d :: ds) := ⟨fun s k =>
  he.run s fun v I1 H1 s1 a1 => h.run (s.step s1) fun us ws I2 H2 s2 hl a2 a3 => k (v :: us) ws I2 H2 (s1.trans s2) (by rw [List.length_cons, hl]) (.cons (a1.mono s2.i) a2) a3⟩
/-- what a def does with a tree -/
def spM (K : PySem.W.Frag) (b : Bool) (j : Nat) (R : List D → Tr → D → Tr → Prop) : Sp := fun vs H Q _ => ∃ L I us ws v ds t d t' f, vs = us ++ v :: ws ∧ us.length = j ∧ Und L I H ∧ (∀ q ∈ L, I q ≠ none) ∧ (b = true → L = []) ∧ Ats K I us (ds.take j) ∧ Ats K I ws (ds.drop j) ∧
  Ow K I H v t f ∧ f.Nodup ∧ (∀ q ∈ f, I q = none ∧ H q ≠ none) ∧ R ds t d t' ∧
  ∀ x I' H' f', Ext I I' → Und L I' H' → (∀ q, H q ≠ none → q ∉ f → H' q = H q) → (∀ q, H q ≠ none → q ∉ f → I q = none → I' q = none) → Ow K I' H' v t' f' → f'.Nodup → (∀ q ∈ f', (q ∈ f ∨ H q = none) ∧ I' q = none ∧ H' q ≠ none) → At K I' x d → Q x H'
/-- a call of such a def -/
theorem GvX.call {b : Bool} {R : List D → Tr → D → Tr → Prop} {X : XK} (hρ : ρ[i]? = some (.own (resN K v0 t))) (h : GvM K F ρ tA i v0 j ds) (hR : R ds t d t') (hb : b = true → F.L = []) : GvX K F ρ (tCall (spM K b j R) [] X tA) d (ρ.set i (.own (resN K v0 t'))) := ⟨fun {I H σ Q} s k =>
  h.run s fun us ws I1 H1 s1 hl a1 a2 => by
    have S := s.step s1
    obtain ⟨fp, sl, nd, kf⟩ := S.sl
    obtain ⟨v, f, g, hv, hφ, p1, _, h5⟩ := sl.part hρ
    obtain ⟨rfl, o⟩ := hφ
    have nd2 : (f ++ g).Nodup := p1.nodup_iff.mp nd
    have kf : ∀ q ∈ f ++ g, I1 q = none ∧ F.H0 q = none ∧ H1 q ≠ none := fun q hq => kf q (p1.mem_iff.mpr hq)
    refine ⟨F.L, I1, us, ws, v, ds, t, d, t', f, by rw [List.append_nil], hl, S.ok.u, S.ok.l, hb, a1, a2, o, (List.nodup_append.mp nd2).1, fun q hq => ⟨(kf q (List.mem_append_left _ hq)).1, (kf q (List.mem_append_left _ hq)).2.2⟩, hR, fun x I2 H2 f2 x2 u2 hH hI o2 nf2 hf2 ax => ?_⟩
    have ng : ∀ q ∈ g, q ∉ f := fun q hq z => (List.nodup_append.mp nd2).2.2 q z q hq rfl
    have n0 : ∀ q, F.H0 q ≠ none → q ∉ f ∧ H1 q ≠ none := fun q hq => ⟨fun z => hq (kf q (List.mem_append_left _ z)).2.1, ext_ne S.ok.h hq⟩
    obtain ⟨fp2, p2, sl2⟩ := h5 I2 H2 (resN K v t') v f2 x2 (fun q hq => hH q (kf q (List.mem_append_right _ hq)).2.2 (ng q hq)) ⟨rfl, o2⟩
    have hsame : σ.set i (some v) = σ := set_same hv
    rw [hsame] at sl2
    refine k x I2 H2 (ext_trans s1.i x2) ⟨⟨ext_trans S.ok.i x2, fun q o hq => ?_, fun q hq hq2 => ?_, u2, fun q hq => ?_⟩, fp2, sl2, ?_, fun q hq => ?_⟩ ax
    · have z := n0 q (by rw [hq]; exact fun z => nomatch z)
      rw [hH q z.2 z.1]
      exact S.ok.h q o hq
    · have z := n0 q hq
      exact hI q z.2 z.1 (S.ok.n q hq hq2)
    · exact ext_ne x2 (S.ok.l q hq)
    · refine p2.nodup_iff.mpr (List.nodup_append.mpr ⟨nf2, (List.nodup_append.mp nd2).2.1, fun a ha b hb z => ?_⟩)
      subst z
      exact (hf2 a ha).1.elim (ng a hb) fun w => (kf a (List.mem_append_right _ hb)).2.2 w
    · rcases List.mem_append.mp (p2.mem_iff.mp hq) with w | w
      · obtain ⟨z1, z2, z3⟩ := hf2 q w
        exact ⟨z2, Classical.byContradiction fun z => z1.elim (n0 q z).1 fun y => (n0 q z).2 y, z3⟩
      · obtain ⟨z1, z2, z3⟩ := kf q (List.mem_append_right _ w)
        exact ⟨hI q z3 (ng q w) z1, z2, by rw [hH q z3 (ng q w)]; exact z3⟩⟩
/-- the slots at the start of such a def -/
def startM (K : PySem.W.Frag) (N : List Str) (j : Nat) (v : V) (ds : List D) (t : Tr) : List Slot := (ds.take j).map .imm ++ (.own (resN K v t) :: ((ds.drop j).map .imm ++ List.replicate (N.length - (ds.length + 1)) .un))
def retM (K : PySem.W.Frag) (j : Nat) (v : V) (d : D) (t' : Tr) : Ps := { nx := fun ρ => d = .non ∧ ρ[j]? = some (.own (resN K v t')), rt := fun ρ x => x = d ∧ ρ[j]? = some (.own (resN K v t')), bk := fun _ => False, ct := fun _ => False }
theorem slots_own {n : Nat} {v : V} {r : Res} {f : List Addr} {ws : List V} {es : List D} (ho : r.φ I H v f) (aw : Ats K I ws es) : ∀ {us : List V} {ds : List D}, Ats K I us ds → Slots K I H (ds.map .imm ++ (.own r :: (es.map .imm ++ List.replicate n .un))) (us.map some ++ (some v :: (ws.map some ++ List.replicate n none))) (f ++ [])
  | _, _, .nil => .own ho (slots_start aw)
  | _, _, .cons a r => .imm a (slots_own ho aw r)
theorem enterM {N : List Str} {b : Bool} {R : List D → Tr → D → Tr → Prop} {vs : List V} {H : Hp} {Q : VK} {X : XK} {tt : TS} (hb : ∀ F v ds t d t', R ds t d t' → (b = true → F.L = []) → Blk K F (startM K N j v ds t) tt (retM K j v d t')) (h : spM K b j R vs H Q X) : tt { nx := fun _ H' => Q .non H', rt := Q } (L2.start N vs) H := by
  obtain ⟨L, I, us, ws, v, ds, t, d, t', f, rfl, hl, u, l, hsb, a1, a2, o, nf, hf, hR, k⟩ := h
  classical
  have hlen : us.length = (ds.take j).length := Paired.length a1
  have hlen2 : ws.length = (ds.drop j).length := Paired.length a2
  have fin : ∀ {x : V} {ρ' : List Slot} {σ' : L2.St} {I' H' : Hp}, Ext I I' → Sta K ⟨fun q => if q ∈ f then none else H q, I, L⟩ ρ' I' σ' H' → ρ'[j]? = some (.own (resN K v t')) → At K I' x d → Q x H' := fun {x ρ' σ' I' H'} xe s hj ax => by
    obtain ⟨_, f', o', k', nf', _⟩ := s.tree hj
    refine k x I' H' f' xe s.ok.u (fun q hq hn => ?_) (fun q hq hn hi => ?_) o' nf' (fun q hq => ?_) ax
    · cases z : H q with
      | none => exact absurd z hq
      | some ob => exact s.ok.h q ob (by show (if q ∈ f then none else H q) = some ob; rw [if_neg hn, z])
    · exact s.ok.n q (by show (if q ∈ f then none else H q) ≠ none; rw [if_neg hn]; exact hq) hi
    · obtain ⟨z1, z2, z3⟩ := k' q hq
      refine ⟨?_, z1, z2⟩
      by_cases w : q ∈ f
      · exact .inl w
      · have z3 : (if q ∈ f then none else H q) = none := z3
        rw [if_neg w] at z3
        exact .inr z3
  refine (hb ⟨fun q => if q ∈ f then none else H q, I, L⟩ v ds t d t' hR hsb).run (I := I) (σ := L2.start N (us ++ v :: ws)) (H := H) ⟨⟨Ext.refl' _, fun q ob hq => ?_, fun _ _ z => z, u, l⟩, f ++ [], ?_, by rw [List.append_nil]; exact nf, fun q hq => ?_⟩ ⟨fun n x s => ?_, fun n x s a => ?_, fun n _ _ => n.elim, fun n _ _ => n.elim⟩
  · have hq : (if q ∈ f then none else H q) = some ob := hq
    by_cases w : q ∈ f
    · rw [if_pos w] at hq
      cases hq
    · rw [if_neg w] at hq
      exact hq
  · have := slots_own (n := N.length - (ds.length + 1)) (r := resN K v t) ⟨rfl, o⟩ a2 a1
    unfold startM L2.start
    have e : N.length - (us ++ v :: ws).length = N.length - (ds.length + 1) := by
      rw [List.length_append, List.length_cons, hlen, hlen2, List.length_take, List.length_drop]
      omega
    rw [e, List.map_append, List.map_cons, List.append_assoc, List.cons_append]
    exact this
  · rw [List.append_nil] at hq
    obtain ⟨z1, z2⟩ := hf q hq
    exact ⟨z1, by show (if q ∈ f then none else H q) = none; rw [if_pos hq], z2⟩
  · obtain ⟨n1, n2⟩ := n
    subst n1
    exact fin x s n2 .non
  · obtain ⟨n1, n2⟩ := n
    subst n1
    exact fin x s n2 a
/-- a def that changes a tree -/
theorem okM {Pg : Program} {w : World} {mg : Str → Option Value} {base : Heap} {x qual : Str} {st : Stmt} {f : Addr} {fd : FuncData} {N ps : List Str} {k : Nat} {sb : Bool} {R : List D → Tr → D → Tr → Prop} (T : Fun K x qual st f fd) (S : FnScope N ps (defScope st)) (hj : j < ps.length) (hl : ∀ ds t d t', R ds t d t' → ds.length + 1 = ps.length)
    (hb : ∀ (cdv : Value) (A : Around) (outer : List Env) (s : Shared) (H : Hp) (X : XK), Room k (A.deeper (envOfC qual (defScope st) s.heap.objs.size f cdv)) →
      ∃ tt, PSs (cxOf CX0 Pg w K mg base N qual (defScope st) f cdv A outer s H X).nox (defBody st) tt ∧ ∀ F v ds t d t', R ds t d t' → (sb = true → F.L = []) → Blk K F (startM K N j v ds t) tt (retM K j v d t')) : FnOk Pg w K mg base CX0 (k + 1) f fd ps (spM K sb j R) :=
  T.ok S (fun vs H Q X h => by
    obtain ⟨L, I, us, ws, v, ds, t, d, t', f, rfl, hl2, u, l, hsb, a1, a2, o, nf, hf, hR, k⟩ := h
    have := hl ds t d t' hR
    rw [List.length_append, List.length_cons, Paired.length a1, Paired.length a2, List.length_take, List.length_drop]
    omega) fun cdv A outer s H vs Q X hr h => by
    obtain ⟨t, h1, h2⟩ := hb cdv A outer s H X hr
    exact ⟨t, h1, enterM h2 h⟩
/-! ### a dict of data as a tree, and back -/
theorem ows_imm : ∀ {vs : List V} {ds : List D}, Ats K I vs ds → Ows K I H vs (ds.map .imm) []
  | _, _, .nil => .nil
  | _, _, .cons a r => .cons (f := []) (.imm a) (ows_imm r)
theorem imm_ows : ∀ {vs : List V} {ds : List D} {f : List Addr}, Ows K I H vs (ds.map .imm) f → Ats K I vs ds ∧ f = []
  | _, [], _, h => by
    cases h
    exact ⟨.nil, rfl⟩
  | _, d :: ds, _, h => by
    cases h with
    | cons h1 h2 =>
      cases h1 with
      | imm a =>
        obtain ⟨r, rfl⟩ := imm_ows h2
        exact ⟨.cons a r, rfl⟩
theorem kats_split {κ : Type} : ∀ {ws : List (κ × V)} {kvs : List (κ × D)}, KAts K I ws kvs → ws = (kvs.map (·.1)).zip (ws.map (·.2)) ∧ Ats K I (ws.map (·.2)) (kvs.map (·.2))
  | _, _, .nil => ⟨rfl, .nil⟩
  | x :: _, y :: _, .cons r t => by
    obtain ⟨h1, h2⟩ := kats_split t
    refine ⟨?_, .cons r.2 h2⟩
    rw [List.map_cons, List.map_cons, List.zip_cons_cons, ← h1, ← r.1]
theorem kats_join {κ : Type} : ∀ {ks : List κ} {vs : List V} {ds : List D}, ks.length = vs.length → Ats K I vs ds → KAts K I (ks.zip vs) (ks.zip ds)
  | [], _, _, _, _ => by
    rw [List.zip_nil_left, List.zip_nil_left]
    exact .nil
  | k :: ks, _, _, h, .nil => by simp at h
  | k :: ks, _, _, h, .cons a r => .cons ⟨rfl, a⟩ (kats_join (by simpa using h) r)
def treeK (kvs : List (Key × D)) : Tr := .node (.dK (kvs.map (·.1))) ((kvs.map (·.2)).map .imm)
namespace Blk
theorem toTree {kvs : List (Key × D)} {tt : TS} (h : ρ[i]? = some (.own (resK K kvs))) (k : ∀ v0, Blk K F (ρ.set i (.own (resN K v0 (treeK kvs)))) tt P) : Blk K F ρ tt P := ⟨fun {I H σ E} s e => by
  obtain ⟨v, f, h1, ⟨p, ws, rfl, rfl, h2, a⟩, h3, nf, hput⟩ := s.put (H' := H) h
  obtain ⟨e1, e2⟩ := kats_split a
  have on : Ow K I H (.ref p) (treeK kvs) (p :: Sh.more p (.dK (kvs.map (·.1))) ++ []) := .node (dx := p) (vs := ws.map (·.2)) (by rw [h2]; show some (HO.dK ws) = some (.dK _); rw [← e1]) (by show (kvs.map (·.1)).length = _; rw [List.length_map, List.length_map, Paired.length a]) (fun q hq => absurd hq List.not_mem_nil) (ows_imm e2)
  exact (k (.ref p)).run (hput (resN K (.ref p) (treeK kvs)) [p] H (fun q hq => .inl hq) nf (fun _ _ _ => rfl) (fun q hq => (h3 q hq).2.1) ⟨rfl, on⟩) e⟩
theorem ofTree {v0 : V} {ks : List Key} {es : List D} {tt : TS} (h : ρ[i]? = some (.own (resN K v0 (.node (.dK ks) (es.map .imm))))) (k : Blk K F (ρ.set i (.own (resK K (ks.zip es)))) tt P) : Blk K F ρ tt P := ⟨fun {I H σ E} s e => by
  obtain ⟨v, f, h1, ⟨rfl, o⟩, h3, nf, hput⟩ := s.put (H' := H) h
  generalize hN : Tr.node (.dK ks) (es.map .imm) = tn at o
  cases o with
  | imm a => cases hN
  | @node a dx s' vs ts fp g1 g2 g3 g4 =>
    cases hN
    obtain ⟨a4, rfl⟩ := imm_ows g4
    exact k.run (hput (resK K (ks.zip es)) [a] H (fun q hq => .inl hq) nf (fun _ _ _ => rfl) (fun q hq => (h3 q hq).2.1) ⟨a, _, rfl, rfl, g1, kats_join g2 a4⟩) e⟩
/-- d[k] += e in a tree -/
theorem augW {ta tk tv : TE} {π : List Nat} {ts : List Tr} {ks : List Key} {k : Key} {n y : Int} (h : GvW K F ρ ta i v0 t π) (hρ : ρ[i]? = some (.own (resN K v0 t))) (ht : t.get π = some (.node (.dK ks) ts)) (hk : GvE K F ρ tk (ofV (kV k))) (nd : ks.Nodup) (hj : ks[j]? = some k) (hn : ts[j]? = some (.imm (.int n))) (hv : GvE K F ρ tv (.int y)) (hl : ks.length < 16777216)
    (q : P.nx (ρ.set i (.own (resN K v0 (t.put π (.node (.dK ks) (ts.set j (.imm (.int (n + y)))))))))) : Blk K F ρ (sDAug ta tk tv rAdd) P := ⟨fun {I H σ E} s e =>
  h.run s fun x I1 H1 s1 l1 => hk.run (s.step s1) fun z I2 H2 s2 a2 => by
    have l2 := (s.step s1).path s2 hρ ht l1
    obtain ⟨a, dx, vs, fp, rfl, h1, h2, h4, _⟩ := ((s.step s1).step s2).store hρ ht l2
    have hlen : ks.length = vs.length := h2
    obtain ⟨w, f2, g2, hw, p2, o2, _⟩ := h4.at hn
    have hwn : w = .int n := by
      cases o2 with
      | imm a => exact a.inv_int
    subst hwn
    refine ⟨a, .int n, rfl, .inl ⟨ks.zip vs, k, .inl h1, key_at a2, by rw [valV_zip nd hj hlen, hw]⟩, hv.run ((s.step s1).step s2) fun y2 I3 H3 s3 a3 => ?_⟩
    refine ⟨n, y, rfl, a3.inv_int, ?_⟩
    have l3 := ((s.step s1).step s2).path s3 hρ ht l2
    obtain ⟨a', dx', vs', fp', e1, h1', h2', h4', hfp, nfp, put⟩ := (((s.step s1).step s2).step s3).store hρ ht l3
    cases e1
    have hlen' : ks.length = vs'.length := h2'
    obtain ⟨w', f2, g2, hw', p2, o2, k2⟩ := h4'.at hn
    obtain ⟨f3, p3, o3⟩ := k2 I3 (L2.upd H3 a (.dK (ks.zip (vs'.set j (.int (n + y)))))) (.int (n + y)) (.imm (.int (n + y))) [] (Ext.refl' _) (fun q hq => upd_ne (hfp q (p2.mem_iff.mpr (List.mem_append_right _ hq))).1) (.imm (.int _))
    have zz := put (.dK ks) (vs'.set j (.int (n + y))) (ts.set j (.imm (.int (n + y)))) f3 rfl (by show ks.length = _; rw [List.length_set]; exact hlen') (fun q hq => p2.mem_iff.mpr (List.mem_append_right _ (p3.mem_iff.mp hq))) (p3.nodup_iff.mpr (List.nodup_append.mp (p2.nodup_iff.mp nfp)).2.1) o3
    exact ⟨_, .inl ⟨ks.zip vs', k, h1', key_at a2, by rw [List.length_zip, ← hlen', Nat.min_self]; exact hl, rfl⟩, e.nx q (ext_trans s1.i (ext_trans s2.i s3.i)) (by rw [putK_old nd hj hlen']; exact zz)⟩⟩
end Blk
end
end Own

set_option Elab.async false
set_option maxRecDepth 100000
set_option maxHeartbeats 4000000
set_option linter.all false
/-! f-strings; isdigit, isalpha; texts of the module by `not in`. -/
namespace Own
open PySem PySem.Spec PyProof.Rows L2
section
variable {K : PySem.W.Frag} {F : Fr} {ρ : List Slot} {te : TE} {d : D}
/-- the parts of an f-string -/
structure GvJ (K : PySem.W.Frag) (F : Fr) (ρ : List Slot) (ts : List TE) (acc out : Str) : Prop where
  run : ∀ {I H : Hp} {σ : L2.St} {Q : Str → Hp → Prop}, Sta K F ρ I σ H → (∀ I' H', Stp F.L I H I' H' → Q out H') → tJs ts acc σ H Q
theorem GvJ.nil {acc : Str} : GvJ K F ρ [] acc acc := ⟨fun s k => k _ _ (.refl s.ok.u)⟩
theorem GvJ.cons {ts : List TE} {acc y out : Str} (h : GvE K F ρ te (.str y)) (hl : (acc ++ y).length ≤ 16777216) (r : GvJ K F ρ ts (acc ++ y) out) : GvJ K F ρ (te :: ts) acc out := ⟨fun s k =>
  h.run s fun v I1 H1 s1 a1 => ⟨y, a1.inv_str, hl, r.run (s.step s1) fun I2 H2 s2 => k I2 H2 (s1.trans s2)⟩⟩
theorem GvE.joined {ts : List TE} {out : Str} (h : GvJ K F ρ ts Str.empty out) : GvE K F ρ (fun σ H Q => tJs ts Str.empty σ H fun out H1 => Q (.str out) H1) (.str out) := ⟨fun s k =>
  h.run s fun I1 H1 s1 => k _ I1 H1 s1 (.str _)⟩
theorem GvE.fmtS {y : Str} (h : GvE K F ρ te (.str y)) (hl : y.length ≤ 16777216) : GvE K F ρ (tFmt te) (.str y) := ⟨fun s k => h.run s fun v I1 H1 s1 a1 => .inl ⟨y, a1.inv_str, hl, k _ I1 H1 s1 (.str _)⟩⟩
theorem GvE.fmtI {i : Int} (h : GvE K F ρ te (.int i)) (hl : i.natAbs.log2 < 1920) : GvE K F ρ (tFmt te) (.str (toString i)) := ⟨fun s k => h.run s fun v I1 H1 s1 a1 => .inr ⟨i, a1.inv_int, hl, k _ I1 H1 s1 (.str _)⟩⟩
theorem rm_isdigit {x : Str} : RlM K F (fun x xs H Q => ∃ a, x = .str a ∧ xs = [] ∧ True ∧ Q (.bl (Txt.isdigit a)) H) (.str x) [] (.bl (Txt.isdigit x)) := ⟨fun o a b k => by
  cases b
  exact ⟨x, a.inv_str, rfl, trivial, k _ _ _ (.refl o.u) (.bl _)⟩⟩
theorem rm_isalpha {x : Str} : RlM K F (fun x xs H Q => ∃ a, x = .str a ∧ xs = [] ∧ True ∧ Q (.bl (Txt.isalpha a)) H) (.str x) [] (.bl (Txt.isalpha x)) := ⟨fun o a b k => by
  cases b
  exact ⟨x, a.inv_str, rfl, trivial, k _ _ _ (.refl o.u) (.bl _)⟩⟩
/-- a text in, not in a tuple of the module -/
theorem rl_inKt {x : Str} {p : Addr} {ys : List Str} (h : SqtK K p (ys.map .str)) : Rl2 K F (rIn K false) (.str x) (.at_ p) (.bl (decide (x ∈ ys))) := ⟨fun o a b k => by
  obtain rfl := a.inv_str
  refine ⟨p, ys.map .str, b.inv_at, .inr (h.sq _), rfl, flat_strs _, k _ _ _ (.refl o.u) ?_⟩
  rw [inV_strs]
  exact .bl _⟩
theorem rl_ninKt {x : Str} {p : Addr} {ys : List Str} (h : SqtK K p (ys.map .str)) : Rl2 K F (rIn K true) (.str x) (.at_ p) (.bl (!decide (x ∈ ys))) := ⟨fun o a b k => by
  obtain rfl := a.inv_str
  refine ⟨p, ys.map .str, b.inv_at, .inr (h.sq _), rfl, flat_strs _, k _ _ _ (.refl o.u) ?_⟩
  rw [inV_strs]
  exact .bl _⟩
/-- max of a list of whole numbers -/
theorem rc_maxL {ns : List Int} {m : Int} (hm : m ∈ ns) (hle : ∀ x ∈ ns, x ≤ m) : RlC K F (rMax K) [.lst (ns.map D.int)] (.int m) := ⟨fun {I H xs Q} o a k => by
  cases a with
  | cons a r =>
    cases r
    obtain ⟨p, ys, rfl, hp, ax⟩ := a.inv_lst
    have e : ys = ns.map V.int := by
      have : ∀ {ys : List V} {ns : List Int}, Ats K I ys (ns.map D.int) → ys = ns.map V.int := by
        intro ys ns h
        induction ns generalizing ys with
        | nil =>
          cases h
          rfl
        | cons n ns ih =>
          cases h with
          | cons b r => rw [b.inv_int, ih r]; rfl
      exact this ax
    subst e
    refine ⟨p, ns, rfl, ofL (o.u.tup hp fun z => z), List.length_pos_of_mem hm, fun m2 h1 h2 => ?_⟩
    have : m2 = m := Int.le_antisymm (hle m2 h1) (h2 m hm)
    subst this
    exact k _ _ _ (.refl o.u) (.int _)⟩
/-! ### a dict that is walked -/
/-- a dict at an address that is known -/
def resF (K : PySem.W.Frag) (p : Addr) (kvs : List (Key × D)) : Res where
  φ I H v fp := ∃ ws, v = .ref p ∧ fp = [] ∧ I p = some (.dK ws) ∧ KAts K I ws kvs
  st := by
    rintro I I' H H' v fp ⟨ws, rfl, rfl, h, a⟩ e f
    exact ⟨ws, rfl, rfl, e _ _ h, a.mono e⟩
/-- the frame while the dict at p is walked -/
def Fr.lock (F : Fr) (p : Addr) (od : Obj) (ws : List (Key × V)) : Fr := ⟨L2.upd F.H0 p (.frz od (.dK ws)), L2.upd F.I0 p (.dK ws), p :: F.L⟩
theorem slots_pin {I H : Hp} {r : Res} {v : V} {d : D} (hr : r.φ I H v []) : ∀ {ρ : List Slot} {σ : L2.St} {fp : List Addr} {i : Nat}, Slots K I H ρ σ fp → ρ[i]? = some (.imm d) → σ[i]? = some (some v) → Slots K I H (ρ.set i (.own r)) σ fp
  | _, _, _, i, .nil, h, _ => by simp at h
  | _, _, _, 0, .un s, h, _ => by simp at h
  | _, _, _, 0, .imm a s, h, hv => by
    have e : v = _ := (Option.some.inj (Option.some.inj hv)).symm
    subst e
    exact .own (f := []) hr s
  | _, _, _, 0, .own o s, h, _ => by simp at h
  | _, _, _, i + 1, .un s, h, hv => .un (slots_pin hr s (by simpa using h) (by simpa using hv))
  | _, _, _, i + 1, .imm a s, h, hv => .imm a (slots_pin hr s (by simpa using h) (by simpa using hv))
  | _, _, _, i + 1, .own o s, h, hv => .own o (slots_pin hr s (by simpa using h) (by simpa using hv))
/-- an expression that walks the dict in the slot i -/
theorem GvE.lock {i : Nat} {kvs : List (Key × D)} {t : TE} (hρ : ρ[i]? = some (.imm (.dK kvs))) (hL : F.L = []) (h : ∀ p od ws, GvE K (F.lock p od ws) (ρ.set i (.own (resF K p kvs))) t d) : GvE K F ρ (tLockE t) d := ⟨fun {I H σ Q} s k => by
  obtain ⟨v, hv, a⟩ := s.get hρ
  obtain ⟨p, ws, rfl, hp, aw⟩ := a.inv_dK
  have hH : H p = some (.dK ws) := (s.ok.u p _ hp).1 (by rw [hL]; exact List.not_mem_nil)
  refine ⟨p, .dK ws, hH, trivial, fun od => ?_⟩
  obtain ⟨fp, sl, nd, kf⟩ := s.sl
  have np : ∀ q ∈ fp, q ≠ p := fun q hq e => by
    have := (kf q hq).1
    rw [e, hp] at this
    cases this
  have s2 : Sta K (F.lock p od ws) (ρ.set i (.own (resF K p kvs))) I σ (L2.upd H p (.frz od (.dK ws))) := by
    refine ⟨⟨fun q o hq => ?_, fun q o hq => ?_, fun q hq hq2 => ?_, fun q o hq => ?_, fun q hq => ?_⟩, fp, ?_, nd, fun q hq => ?_⟩
    · by_cases e : q = p
      · subst e
        rw [show (F.lock q od ws).I0 q = some (HO.dK ws) from upd_same] at hq
        rw [hp]
        exact hq
      · exact s.ok.i q o (by rw [← hq]; exact (upd_ne e).symm)
    · by_cases e : q = p
      · subst e
        rw [show (F.lock q od ws).H0 q = some (HO.frz od (.dK ws)) from upd_same] at hq
        rw [upd_same]
        exact hq
      · rw [upd_ne e]
        exact s.ok.h q o (by rw [← hq]; exact (upd_ne e).symm)
    · by_cases e : q = p
      · subst e
        rw [show (F.lock q od ws).I0 q = some (HO.dK ws) from upd_same] at hq2
        cases hq2
      · refine s.ok.n q ?_ ?_
        · rw [← show (F.lock p od ws).H0 q = F.H0 q from upd_ne e]
          exact hq
        · rw [← show (F.lock p od ws).I0 q = F.I0 q from upd_ne e]
          exact hq2
    · by_cases e : q = p
      · subst e
        rw [hp] at hq
        cases hq
        exact ⟨fun z => absurd List.mem_cons_self z, fun _ => ⟨trivial, od, upd_same⟩⟩
      · rw [upd_ne e]
        refine ⟨fun z => (s.ok.u q o hq).1 (fun w => z (List.mem_cons_of_mem _ w)), fun z => ?_⟩
        rcases List.mem_cons.mp z with w | w
        · exact absurd w e
        · exact (s.ok.u q o hq).2 w
    · rcases List.mem_cons.mp hq with w | w
      · rw [w, hp]
        exact fun z => nomatch z
      · exact s.ok.l q w
    · exact slots_pin (r := resF K p kvs) ⟨ws, rfl, rfl, hp, aw⟩ (sl.step (Ext.refl' _) fun q hq => upd_ne (np q hq)) hρ hv
    · obtain ⟨z1, z2, z3⟩ := kf q hq
      refine ⟨z1, ?_, by rw [upd_ne (np q hq)]; exact z3⟩
      rw [show (F.lock p od ws).H0 q = F.H0 q from upd_ne (np q hq)]
      exact z2
  refine (h p od ws).run s2 fun x I' H' st ax => ?_
  have hf : H' p = some (.frz od (.dK ws)) := st.h p _ upd_same
  refine ⟨hf, k x I' _ ⟨st.i, fun q o hq => ?_, fun q hq hi => ?_, fun q o hq => ?_⟩ ax⟩
  · by_cases e : q = p
    · subst e
      rw [upd_same, ← hq, hH]
    · rw [upd_ne e]
      exact st.h q o (by rw [upd_ne e]; exact hq)
  · refine st.n q ?_ hi
    by_cases e : q = p
    · rw [e, upd_same]
      exact fun z => nomatch z
    · rw [upd_ne e]
      exact hq
  · rw [hL]
    refine ⟨fun _ => ?_, fun z => absurd z List.not_mem_nil⟩
    by_cases e : q = p
    · subst e
      have := st.i q _ hp
      rw [this] at hq
      rw [upd_same]
      exact hq
    · rw [upd_ne e]
      exact (st.u q o hq).1 fun z => by
        rcases List.mem_cons.mp z with w | w
        · exact e w
        · rw [hL] at w
          exact List.not_mem_nil w⟩
/-- the pairs of a dict that is walked -/
theorem GvI.items {i : Nat} {p : Addr} {od : Obj} {ws : List (Key × V)} {kvs : List (Key × D)} (hρ : ρ[i]? = some (.own (resF K p kvs))) : GvI K (F.lock p od ws) ρ (iItems (tVar i)) (itemsD kvs) := ⟨fun {I H σ R} s k => by
  obtain ⟨fp, sl, _, _⟩ := s.sl
  obtain ⟨v, f, g, hv, ⟨ws', rfl, rfl, hp, aw⟩, _⟩ := sl.part hρ
  have hi : I p = some (.dK ws) := s.ok.i p _ upd_same
  rw [hi] at hp
  cases hp
  have hH : H p = some (.frz od (.dK ws)) := s.ok.h p _ upd_same
  have hl := Paired.length aw
  refine ⟨_, hv, p, od, ws, rfl, hH, k (Iti p od ws) (fun H => H p = some (.frz od (.dK ws))) _ I H (.refl s.ok.u) (by
    have := walk_items (d := p) (o := od) (kvs := ws)
    rw [show (itemsD kvs).length = ws.length by unfold itemsD; rw [List.length_map, hl]]
    exact this) (fun I2 H2 e o => o.h p _ upd_same) fun j x I2 H2 H3 hj e o y => ?_⟩
  obtain ⟨T, x1, y1, rfl, hT, e3, hx, hy⟩ := y
  have hj : j < ws.length := by
    unfold itemsD at hj
    rw [List.length_map] at hj
    omega
  have hjk : j < kvs.length := by omega
  have hw : ws[j]? = some ws[j] := List.getElem?_eq_getElem hj
  have hk : kvs[j]? = some kvs[j] := List.getElem?_eq_getElem hjk
  have hx : ws[j]?.map (fun kv => kV kv.1) = some x1 := hx
  have hy : ws[j]?.map Prod.snd = some y1 := hy
  rw [hw] at hx hy
  cases Option.some.inj hx
  cases Option.some.inj hy
  obtain ⟨r1, r2⟩ := paired_at aw j _ _ hw hk
  obtain ⟨I3, s3, a3⟩ := GvI.pairI (dx := ofV (kV kvs[j].1)) (dy := kvs[j].2) o hT e3 (by show At K I2 (kV ws[j].1) _; rw [r1]; exact at_key) (r2.mono e)
  refine ⟨_, I3, ?_, s3, a3⟩
  unfold itemsD
  rw [List.getElem?_map, hk]
  rfl⟩
/-! ### a dict made by a comprehension -/
theorem dc_it {J : It} {n : Nat} {G : Hp → Prop} {Y : Nat → Hp → V → Hp → Prop} (w : Walk J n G Y) {g : TG} {tt : TT} {tk tv : TE} {vs : List Nat} {σ : L2.St} {H1 : Hp} {D0 : Addr} {Qd : Hp → Prop} (Pv : Nat → Hp → Prop) (h0 : Pv 0 (L2.upd H1 D0 (.dK []))) (hG : ∀ i H, i ≤ n → Pv i H → G H)
    (hs : ∀ i x H H', i < n → Pv i H → Y i H x H' → g x (wipe σ vs) H' fun σ2 H2 => wipe σ2 vs = wipe σ vs ∧ tt σ2 H2 fun b H3 =>
      if b = true then tk σ2 H3 fun y H4 => tv σ2 H4 fun z H5 => ∃ kvs k, y = kV k ∧ H5 D0 = some (.dK kvs) ∧ kvs.length < sizeLine ∧ Pv (i + 1) (L2.upd H5 D0 (.dK (putK kvs k z))) else Pv (i + 1) H3) (hd : ∀ H, Pv n H → Qd H) :
    ∃ W : Nat → Nat → Hp → Prop, (∃ m, W 0 m (L2.upd H1 D0 (.dK []))) ∧ ∀ i m H, W i m H →
      (J.stop i H ∧ Qd H) ∨ (J.go i H ∧ ∃ Nx : Hp → Prop, (∀ H', Nx H' → ∃ m', m' < m ∧ W (i + 1) m' H') ∧ ∀ x H', J.yld i H x H' → g x (wipe σ vs) H' fun σ2 H2 => wipe σ2 vs = wipe σ vs ∧ tt σ2 H2 fun b H3 =>
        if b = true then tk σ2 H3 fun y H4 => tv σ2 H4 fun z H5 => ∃ kvs k, y = kV k ∧ H5 D0 = some (.dK kvs) ∧ kvs.length < sizeLine ∧ Nx (L2.upd H5 D0 (.dK (putK kvs k z))) else Nx H3) := by
  refine ⟨fun i m H => m + i = n ∧ Pv i H, ⟨n, rfl, h0⟩, ?_⟩
  rintro i m H ⟨hm, p⟩
  rcases Nat.lt_or_ge i n with hlt | hge
  · exact .inr ⟨w.goes i H hlt (hG i H (by omega) p), Pv (i + 1), fun H' hn => ⟨m - 1, by omega, by omega, hn⟩, fun x H' y => hs i x H H' hlt p (w.yields i H x H' hlt (hG i H (by omega) p) y)⟩
  · obtain rfl : i = n := by omega
    exact .inl ⟨w.stops H (hG i H (by omega) p), hd H p⟩
theorem putK_len {κ : Type} [DecidableEq κ] {ws : List (κ × V)} {k : κ} {v : V} : (putK ws k v).length ≤ ws.length + 1 := by
  unfold putK
  split
  · rw [List.length_map]
    omega
  · rw [List.length_append]
    exact Nat.le_refl _
/-- x = {k: v for .. in ..} -/
theorem Blk.newDc {P : Ps} {i : Nat} {wi : TI} {g : TG} {tk tv : TE} {vs is : List Nat} {ds : List D} (fk : D → Key) (fv : D → D) (hi : GvI K F ρ wi ds) (hl : ds.length ≤ 16777216)
    (hs : ∀ d, d ∈ ds → ∃ ρ2, GvG K F g d (wipeS ρ vs) ρ2 is ∧ (∀ j ∈ is, j ∈ vs) ∧ GvE K F ρ2 tk (ofV (kV (fk d))) ∧ GvE K F ρ2 tv (fv d))
    (q : P.nx (ρ.set i (.own (resK K (ds.foldl (fun acc d => putD acc (fk d) (fv d)) []))))) : Blk K F ρ (tAsg (tDc wi g tYes tk tv vs) (gName i)) P := ⟨fun {I H σ E} s e => hi.run s fun J G Y I' H' s1 w hG hY => fun D0 hD => by
  have s' := sta_wipe vs (s.step s1)
  obtain ⟨fp, nd, hf, c0⟩ := Cs.start s' hD (.dK [])
  have h0 : F.H0 D0 = none := Classical.byContradiction fun z => ext_ne s'.ok.h z hD
  refine dc_it w (fun i H2 => ∃ I2 ws, Cs K F (wipeS ρ vs) (wipe σ vs) fp D0 I' H' I2 H2 ∧ H2 D0 = some (.dK ws) ∧ KAts K I2 ws ((ds.take i).foldl (fun acc d => putD acc (fk d) (fv d)) []) ∧ ws.length ≤ i)
    ⟨I', [], c0, upd_same, .nil, Nat.le_refl _⟩ (fun i H2 _ z => ?_) (fun i x H2 H3 hlt z y => ?_) fun H2 z => ?_
  · obtain ⟨I2, _, c, _⟩ := z
    exact hG I2 H2 c.i c.ok
  · obtain ⟨I2, ws, c, hx, ax, hxl⟩ := z
    obtain ⟨d, I3, hd, s3, a3⟩ := hY i _ I2 H2 H3 hlt c.i c.ok y
    obtain ⟨ρ2, hg, hj, hk, hv⟩ := hs d (List.mem_of_getElem? hd)
    obtain ⟨c3, e3⟩ := c.step s3
    have ww : wipe (wipe σ vs) vs = wipe σ vs := wipe_wipe vs vs σ fun _ h => h
    refine hg.run (c3.sta nd) a3 fun σ2 hw z2 => ⟨(hw vs hj).trans ww, ?_⟩
    refine GvT.yes.run z2 fun I4 H4 s4 => ?_
    obtain ⟨c4, e4⟩ := c3.step s4
    refine hk.run (z2.step s4) fun v5 I5 H5 s5 a5 => ?_
    obtain ⟨c5, e5⟩ := c4.step s5
    refine hv.run ((z2.step s4).step s5) fun v6 I6 H6 s6 a6 => ?_
    obtain ⟨c6, e6⟩ := c5.step s6
    have x6 : H6 D0 = some (.dK ws) := by rw [e6, e5, e4, e3]; exact hx
    refine ⟨ws, fk d, key_at a5, x6, Nat.lt_of_le_of_lt hxl (Nat.lt_of_lt_of_le hlt hl), I6, putK ws (fk d) v6, c6.put hf h0 _, upd_same, ?_, ?_⟩
    · rw [take_snoc hd, List.foldl_append]
      exact kats_put a6 ((((ax.mono s3.i).mono s4.i).mono s5.i).mono s6.i)
    · exact Nat.le_trans putK_len (Nat.succ_le_succ hxl)
  · obtain ⟨I2, ws, c, hx, ax, _⟩ := z
    rw [List.take_length] at ax
    have st : Stp F.L I' H' I2 (fun q => if q = D0 then none else H2 q) := by
      refine ⟨c.i, fun p o hp => ?_, c.n, fun p o hp => ?_⟩
      · have hne : p ≠ D0 := fun e => by rw [e, hD] at hp; cases hp
        show (if p = D0 then none else H2 p) = some o
        rw [if_neg hne]
        exact c.h p hne o hp
      · have hne : p ≠ D0 := fun e => by rw [e, c.no] at hp; cases hp
        show (p ∉ F.L → (if p = D0 then none else H2 p) = some o) ∧ (p ∈ F.L → isDict o ∧ ∃ ob, (if p = D0 then none else H2 p) = some (.frz ob o))
        rw [if_neg hne]
        exact c.ok.u p o hp
    refine e.nx q (ext_trans s1.i c.i) (((s.step s1).step st).make i (f := [D0]) (fun q hq => ?_) (by simp) (fun q hq => ?_) (fun q hq => ?_) ⟨D0, ws, rfl, rfl, hx, ax⟩)
    · rw [List.mem_singleton.mp hq]
      exact if_pos rfl
    · exact (if_neg (by simpa using hq)).symm
    · rw [List.mem_singleton.mp hq, hx]
      exact fun z => nomatch z⟩
end
/-! ### a name = {k: v for ..} on one line -/
section
variable {X : Cx}
theorem ps_setDc {i : Nat} {y : Str} {py : Pos} {kx vx tg iter : Expr} {ifs : List Expr} {scope : Scope} {own : List (Str × Nat)} {pos spos : Pos} {wi : TI} {g : TG} {tt : TT} {tk tv : TE} (hc : X.calm = true) (hN : X.N.Nodup) (hy : X.N[i]? = some y) (hyl : X.env.scope.names.lookup y = some .local)
    (hsw : swapsWith (.DictComp kx vx [⟨tg, iter, ifs, 0⟩] scope pos) (some (.Name y py)) spos.line X.env = pure true) (hi : PI X tg iter wi) (ok : BlkOk X.N X.env.scope scope own)
    (hg : ∀ (s : Shared) (H : Hp) (C : Addr) (cl : List (Str × Addr)) (fp : List Addr), PG (X.blk s H scope (compEnvC scope cl C X.env) fp) tg g) (ht : ∀ (s : Shared) (H : Hp) (C : Addr) (cl : List (Str × Addr)) (fp : List Addr), PTs (X.blk s H scope (compEnvC scope cl C X.env) fp) ifs tt)
    (hk : ∀ (s : Shared) (H : Hp) (C : Addr) (cl : List (Str × Addr)) (fp : List Addr), PE (X.blk s H scope (compEnvC scope cl C X.env) fp) kx tk)
    (he : ∀ (s : Shared) (H : Hp) (C : Addr) (cl : List (Str × Addr)) (fp : List Addr), PE (X.blk s H scope (compEnvC scope cl C X.env) fp) vx tv) (hs : ∀ x, foldedSetIterable iter X.env x = pure x := by intro _; rfl) :
    PS X (.Assign [.Name y py] (.DictComp kx vx [⟨tg, iter, ifs, 0⟩] scope pos) spos) (tAsg (tDc wi g tt tk tv (own.map (·.2))) (gName i)) := by
  refine ⟨fun pins s σ H D I h => ?_⟩
  rw [exec_Assign_Name_used _ _ _ _ hsw]
  refine wpAny_bind (wpAny_standAt (wpAny_bind ?_))
  have h : tDc wi g tt tk tv (own.map (·.2)) σ H (fun x H1 => gName i x σ H1 D.nx) := h
  have core := dc_core (pos := pos) (use := some (assign (.Name y py) X.env)) (pos' := firstIterPos [⟨tg, iter, ifs, 0⟩] pos) (Qf := fun _ s' => SP X pins D .next s') hc hN I hi ok hg ht hk he hs h fun L C s' m H' I' q hn f => by
    show wpAny _ _ (assign (.Name y py) X.env (.ref L)) _ _ _
    refine wpAny_assign_Name (store_ok2 (v := V.ref L) I' hN hy (.inl hyl) rfl (fun s2 I2 w => ?_) (.inr hyl))
    obtain ⟨a, sb, ha⟩ := w
    obtain ⟨f0, f1, f2, f3, f4, f5⟩ := f
    have hne : C ≠ a := ha.elim (fun z => z ▸ f1) fun z e => f4 y a z e.symm
    exact ⟨m, hn.sameBut sb hne, fun h3 sb3 => ⟨_, H', I2.turned (t' := s2.toks) (fun b o hb e => (sb3.2 b hb).trans e) f0 f1 f3 f4 f5, q⟩⟩
  exact wpAny_bind (thn core fun _ s' hq => wpAny_pure (wpAny_pure hq))
theorem swd_true {kx vx : Expr} {gs : List Comprehension} {scope : Scope} {pos py : Pos} {y : Str} {l : Nat} {env : Env} (hk : env.scope.kind = .function) (hy : env.scope.names.lookup y = some .local) (hl : (py.line == pos.line) = true)
    (ha : (scope.names.any fun (n, k) => n == y && (k == .local || k == .cell)) = false) : swapsWith (.DictComp kx vx gs scope pos) (some (.Name y py)) l env = pure true := by
  have e1 : env.kindOf y = some .local := hy
  have e2 : env.blockKind = .function := by unfold Env.blockKind; rw [hk]; rfl
  unfold swapsWith
  simp only [e2, e1, ha, Expr.pos, hl]
  rfl
end
end Own

set_option Elab.async false
set_option maxRecDepth 100000
set_option maxHeartbeats 4000000
set_option linter.all false
/-! Statements that walk a dict; d.get(k, e) of a tree; a text taken many times. -/
namespace Own
open PySem PySem.Spec PyProof.Rows L2
section
variable {K : PySem.W.Frag} {F : Fr} {ρ : List Slot} {I H : Hp} {d : D}
/-! ### a statement that walks the dict in a slot -/
theorem Sta.lock {σ : L2.St} {i : Nat} {kvs : List (Key × D)} (s : Sta K F ρ I σ H) (hρ : ρ[i]? = some (.imm (.dK kvs))) (hL : F.L = []) : ∃ p ws, H p = some (.dK ws) ∧ I p = some (.dK ws) ∧ KAts K I ws kvs ∧ ∀ od, Sta K (F.lock p od ws) (ρ.set i (.own (resF K p kvs))) I σ (L2.upd H p (.frz od (.dK ws))) := by
  obtain ⟨v, hv, a⟩ := s.get hρ
  obtain ⟨p, ws, rfl, hp, aw⟩ := a.inv_dK
  have hH : H p = some (.dK ws) := (s.ok.u p _ hp).1 (by rw [hL]; exact List.not_mem_nil)
  obtain ⟨fp, sl, nd, kf⟩ := s.sl
  have np : ∀ q ∈ fp, q ≠ p := fun q hq e => by
    have := (kf q hq).1
    rw [e, hp] at this
    cases this
  refine ⟨p, ws, hH, hp, aw, fun od => ⟨⟨fun q o hq => ?_, fun q o hq => ?_, fun q hq hq2 => ?_, fun q o hq => ?_, fun q hq => ?_⟩, fp, ?_, nd, fun q hq => ?_⟩⟩
  · by_cases e : q = p
    · subst e
      rw [show (F.lock q od ws).I0 q = some (HO.dK ws) from upd_same] at hq
      rw [hp]
      exact hq
    · exact s.ok.i q o (by rw [← hq]; exact (upd_ne e).symm)
  · by_cases e : q = p
    · subst e
      rw [show (F.lock q od ws).H0 q = some (HO.frz od (.dK ws)) from upd_same] at hq
      rw [upd_same]
      exact hq
    · rw [upd_ne e]
      exact s.ok.h q o (by rw [← hq]; exact (upd_ne e).symm)
  · by_cases e : q = p
    · subst e
      rw [show (F.lock q od ws).I0 q = some (HO.dK ws) from upd_same] at hq2
      cases hq2
    · refine s.ok.n q ?_ ?_
      · rw [← show (F.lock p od ws).H0 q = F.H0 q from upd_ne e]
        exact hq
      · rw [← show (F.lock p od ws).I0 q = F.I0 q from upd_ne e]
        exact hq2
  · by_cases e : q = p
    · subst e
      rw [hp] at hq
      cases hq
      exact ⟨fun z => absurd List.mem_cons_self z, fun _ => ⟨trivial, od, upd_same⟩⟩
    · rw [upd_ne e]
      refine ⟨fun z => (s.ok.u q o hq).1 (fun w => z (List.mem_cons_of_mem _ w)), fun z => ?_⟩
      rcases List.mem_cons.mp z with w | w
      · exact absurd w e
      · exact (s.ok.u q o hq).2 w
  · rcases List.mem_cons.mp hq with w | w
    · rw [w, hp]
      exact fun z => nomatch z
    · exact s.ok.l q w
  · exact slots_pin (r := resF K p kvs) ⟨ws, rfl, rfl, hp, aw⟩ (sl.step (Ext.refl' _) fun q hq => upd_ne (np q hq)) hρ hv
  · obtain ⟨z1, z2, z3⟩ := kf q hq
    refine ⟨z1, ?_, by rw [upd_ne (np q hq)]; exact z3⟩
    rw [show (F.lock p od ws).H0 q = F.H0 q from upd_ne (np q hq)]
    exact z2
theorem slots_back {p : Addr} {kvs : List (Key × D)} : ∀ {ρ : List Slot} {σ : L2.St} {fp : List Addr} {i : Nat}, Slots K I H ρ σ fp → ρ[i]? = some (.own (resF K p kvs)) → Slots K I H (ρ.set i (.imm (.dK kvs))) σ fp
  | _, _, _, i, .nil, h => by simp at h
  | _, _, _, 0, .un s, h => by simp at h
  | _, _, _, 0, .imm a s, h => by simp at h
  | _, _, _, 0, .own o s, h => by
    cases Slot.own.inj (Option.some.inj h)
    obtain ⟨ws, rfl, rfl, hp, aw⟩ := o
    exact .imm (.dK' hp aw) s
  | _, _, _, i + 1, .un s, h => .un (slots_back s (by simpa using h))
  | _, _, _, i + 1, .imm a s, h => .imm a (slots_back s (by simpa using h))
  | _, _, _, i + 1, .own o s, h => .own o (slots_back s (by simpa using h))
/-- what the frame is behind such a statement -/
theorem Sta.unlock {I' H' : Hp} {σ' : L2.St} {ρ' : List Slot} {i : Nat} {p : Addr} {od : Obj} {ws : List (Key × V)} {kvs : List (Key × D)} (o0 : OkF F I H) (hL : F.L = []) (hI : I p = some (.dK ws)) (hH : H p = some (.dK ws)) (e : Ext I I') (s : Sta K (F.lock p od ws) ρ' I' σ' H') (hρ : ρ'[i]? = some (.own (resF K p kvs))) :
    H' p = some (.frz od (.dK ws)) ∧ Sta K F (ρ'.set i (.imm (.dK kvs))) I' σ' (L2.upd H' p (.dK ws)) := by
  have hp := e _ _ hI
  obtain ⟨fp, sl, nd, kf⟩ := s.sl
  have np : ∀ q ∈ fp, q ≠ p := fun q hq e2 => by
    have := (kf q hq).1
    rw [e2, hp] at this
    cases this
  refine ⟨s.ok.h p _ upd_same, ⟨fun q o hq => e q o (o0.i q o hq), fun q o hq => ?_, fun q hq hq2 => ?_, fun q o hq => ?_, fun q hq => ?_⟩, fp, ?_, nd, fun q hq => ?_⟩
  · by_cases e2 : q = p
    · subst e2
      rw [upd_same]
      have := o0.h q o hq
      rw [hH] at this
      exact this
    · rw [upd_ne e2]
      exact s.ok.h q o (by rw [show (F.lock p od ws).H0 q = F.H0 q from upd_ne e2]; exact hq)
  · by_cases e2 : q = p
    · subst e2
      have := o0.n q hq hq2
      rw [hI] at this
      cases this
    · exact s.ok.n q (by rw [show (F.lock p od ws).H0 q = F.H0 q from upd_ne e2]; exact hq) (by rw [show (F.lock p od ws).I0 q = F.I0 q from upd_ne e2]; exact hq2)
  · rw [hL]
    refine ⟨fun _ => ?_, fun z => absurd z List.not_mem_nil⟩
    by_cases e2 : q = p
    · subst e2
      rw [hp] at hq
      rw [upd_same]
      exact hq
    · rw [upd_ne e2]
      exact (s.ok.u q o hq).1 fun z => by
        rcases List.mem_cons.mp z with w | w
        · exact e2 w
        · rw [hL] at w
          exact List.not_mem_nil w
  · rw [hL] at hq
    cases hq
  · exact slots_back (sl.step (Ext.refl' _) fun q hq => upd_ne (np q hq)) hρ
  · obtain ⟨z1, z2, z3⟩ := kf q hq
    refine ⟨z1, ?_, by rw [upd_ne (np q hq)]; exact z3⟩
    rw [← show (F.lock p od ws).H0 q = F.H0 q from upd_ne (np q hq)]
    exact z2
/-- the ends of such a statement -/
def lockP (K : PySem.W.Frag) (i : Nat) (p : Addr) (kvs : List (Key × D)) (P : Ps) : Ps where
  nx := fun ρ' => ρ'[i]? = some (.own (resF K p kvs)) ∧ P.nx (ρ'.set i (.imm (.dK kvs)))
  rt := fun ρ' d => ρ'[i]? = some (.own (resF K p kvs)) ∧ P.rt (ρ'.set i (.imm (.dK kvs))) d
  bk := fun ρ' => ρ'[i]? = some (.own (resF K p kvs)) ∧ P.bk (ρ'.set i (.imm (.dK kvs)))
  ct := fun ρ' => ρ'[i]? = some (.own (resF K p kvs)) ∧ P.ct (ρ'.set i (.imm (.dK kvs)))
theorem Blk.lock {i : Nat} {kvs : List (Key × D)} {t : TS} {P : Ps} (hρ : ρ[i]? = some (.imm (.dK kvs))) (hL : F.L = []) (h : ∀ p od ws, Blk K (F.lock p od ws) (ρ.set i (.own (resF K p kvs))) t (lockP K i p kvs P)) : Blk K F ρ (tLock t) P := ⟨fun {I H σ E} s e => by
  obtain ⟨p, ws, hH, hI, aw, s2⟩ := s.lock hρ hL
  refine ⟨p, .dK ws, hH, trivial, fun od => (h p od ws).run (s2 od) ⟨fun q x s3 => ?_, fun q x s3 a => ?_, fun q x s3 => ?_, fun q x s3 => ?_⟩⟩
  · obtain ⟨z1, z2⟩ := Sta.unlock s.ok hL hI hH x s3 q.1
    exact ⟨z1, e.nx q.2 x z2⟩
  · obtain ⟨z1, z2⟩ := Sta.unlock s.ok hL hI hH x s3 q.1
    exact ⟨z1, e.rt q.2 x z2 a⟩
  · obtain ⟨z1, z2⟩ := Sta.unlock s.ok hL hI hH x s3 q.1
    exact ⟨z1, e.bk q.2 x z2⟩
  · obtain ⟨z1, z2⟩ := Sta.unlock s.ok hL hI hH x s3 q.1
    exact ⟨z1, e.ct q.2 x z2⟩⟩
/-- the keys of a dict that is walked -/
theorem GvI.keys {i : Nat} {p : Addr} {od : Obj} {ws : List (Key × V)} {kvs : List (Key × D)} (hρ : ρ[i]? = some (.own (resF K p kvs))) : GvI K (F.lock p od ws) ρ (iKeys (tVar i)) (kvs.map fun kv => ofV (kV kv.1)) := ⟨fun {I H σ R} s k => by
  obtain ⟨fp, sl, _, _⟩ := s.sl
  obtain ⟨v, f, g, hv, ⟨ws', rfl, rfl, hp, aw⟩, _⟩ := sl.part hρ
  have hi : I p = some (.dK ws) := s.ok.i p _ upd_same
  rw [hi] at hp
  cases hp
  have hH : H p = some (.frz od (.dK ws)) := s.ok.h p _ upd_same
  have hl := Paired.length aw
  refine ⟨_, hv, p, od, rfl, .inl ⟨ws, hH, k (Itk p od ws) (fun H => H p = some (.frz od (.dK ws))) _ I H (.refl s.ok.u) (by
    have := walk_keys (d := p) (o := od) (kvs := ws)
    rw [List.length_map, ← hl]
    exact this) (fun I2 H2 e o => o.h p _ upd_same) fun j x I2 H2 H3 hj e o y => ?_⟩⟩
  obtain ⟨rfl, k1, v1, hw, rfl⟩ := y
  rw [List.length_map] at hj
  have hk : kvs[j]? = some kvs[j] := List.getElem?_eq_getElem hj
  obtain ⟨r1, r2⟩ := paired_at aw j _ _ hw hk
  refine ⟨_, I2, by rw [List.getElem?_map, hk]; rfl, .refl o.u, ?_⟩
  have r1 : k1 = kvs[j].1 := r1
  subst r1
  exact at_key⟩
/-- what such a dict holds at a key -/
theorem GvE.fget {i : Nat} {p : Addr} {od : Obj} {ws : List (Key × V)} {kvs : List (Key × D)} {k : Key} {tk : TE} (hρ : ρ[i]? = some (.own (resF K p kvs))) (hk : GvE K (F.lock p od ws) ρ tk (ofV (kV k))) (hg : getD kvs k = some d) : GvE K (F.lock p od ws) ρ (tDGet (tVar i) tk) d := ⟨fun {I H σ Q} s kk => by
  obtain ⟨fp, sl, _, _⟩ := s.sl
  obtain ⟨v, f, g, hv, ⟨ws', rfl, rfl, hp, aw⟩, _⟩ := sl.part hρ
  have hi : I p = some (.dK ws) := s.ok.i p _ upd_same
  rw [hi] at hp
  cases hp
  refine ⟨_, hv, hk.run s fun y I2 H2 s2 a2 => ?_⟩
  have hH : H2 p = some (.frz od (.dK ws)) := (s.step s2).ok.h p _ upd_same
  obtain ⟨v, hv, av⟩ := look_key aw hg
  exact ⟨p, v, rfl, .inl ⟨ws, k, .inr ⟨od, hH⟩, key_at a2, hv.symm⟩, kk v _ _ s2 (av.mono s2.i)⟩⟩
/-- d.get(k, e) of a tree -/
theorem GvE.wget2 {ta tk te : TE} {i : Nat} {v0 : V} {t : Tr} {π : List Nat} {ks : List Key} {ts : List Tr} {k : Key} {dd : D} (h : GvW K F ρ ta i v0 t π) (hρ : ρ[i]? = some (.own (resN K v0 t))) (ht : t.get π = some (.node (.dK ks) ts)) (hk : GvE K F ρ tk (ofV (kV k))) (he : GvE K F ρ te dd) (nd : ks.Nodup)
    (hd : (k ∉ ks ∧ d = dd) ∨ ∃ j : Nat, ks[j]? = some k ∧ ts[j]? = some (Tr.imm d)) : GvE K F ρ (tDGet2 ta tk te) d := ⟨fun s kk =>
  h.run s fun x I1 H1 s1 l1 => by
    obtain ⟨a0, dx0, vs0, fp0, rfl, h10, h20, _⟩ := (s.step s1).store hρ ht l1
    refine ⟨a0, rfl, .inl ⟨_, .inl h10⟩, hk.run (s.step s1) fun y I2 H2 s2 a2 => he.run ((s.step s1).step s2) fun z I3 H3 s3 a3 => ?_⟩
    have l2 := (s.step s1).path s2 hρ ht l1
    have l3 := ((s.step s1).step s2).path s3 hρ ht l2
    obtain ⟨a, dx, vs, fp, e1, h1, h2, h4, _⟩ := (((s.step s1).step s2).step s3).store hρ ht l3
    cases e1
    have hlen : ks.length = vs.length := h2
    rcases hd with ⟨hn, rfl⟩ | ⟨j, hj, hjt⟩
    · refine ⟨none, .inl ⟨ks.zip vs, k, .inl h1, key_at a2, ?_⟩, kk _ _ _ ((s1.trans s2).trans s3) a3⟩
      have : valV (ks.zip vs) k = none := by
        unfold valV
        have e : (ks.zip vs).find? (fun kv => decide (kv.1 = k)) = none := List.find?_eq_none.mpr fun kv hkv => by
          have := (List.of_mem_zip hkv).1
          simp only [decide_eq_true_eq]
          exact fun z => hn (z ▸ this)
        first
          | rw [e]; rfl
          | simp [e]
      rw [this]
    · have hjv : j < vs.length := by
        have := (List.getElem?_eq_some_iff.mp hj).1
        omega
      have hv := List.getElem?_eq_getElem hjv
      obtain ⟨w, f2, g2, hw, p2, o2, _⟩ := h4.at hjt
      have ad : At K I3 w d := by
        cases o2 with
        | imm a => exact a
      exact ⟨some w, .inl ⟨ks.zip vs, k, .inl h1, key_at a2, by rw [valV_zip nd hj hlen, hw]⟩, kk _ _ _ ((s1.trans s2).trans s3) ad⟩⟩
/-! ### a, b = e, {} and a, b = {}, c -/
theorem make_slotK {σ : L2.St} (s : Sta K F ρ I σ H) (i : Nat) {p : Addr} (hp : H p = none) : Sta K F (ρ.set i (.own (resK K []))) I (σ.set i (some (.ref p))) (L2.upd H p (.dK [])) :=
  s.make i (f := [p]) (fun q hq => by rw [List.mem_singleton.mp hq]; exact hp) (by simp) (fun q hq => upd_ne (by simpa using hq)) (fun q hq => by rw [List.mem_singleton.mp hq, upd_same]; exact fun z => nomatch z) ⟨p, [], rfl, rfl, upd_same, .nil⟩
theorem Blk.parK {i j : Nat} {te : TE} {P : Ps} (he : GvE K F ρ te d) (q : P.nx ((ρ.set i (.imm d)).set j (.own (resK K [])))) : Blk K F ρ (tPar i j (tCons te (tCons tDNewK tNil))) P := ⟨fun {I H σ E} s e => he.run s fun v I1 H1 s1 a1 => fun p hp => ⟨v, .ref p, rfl, e.nx q s1.i (make_slotK ((s.step s1).set a1 i) j hp)⟩⟩
theorem Blk.parKc {i j : Nat} {v : V} {P : Ps} (hv : ∀ I, At K I v d) (q : P.nx ((ρ.set i (.own (resK K []))).set j (.imm d))) : Blk K F ρ (tPar i j (tCons tDNewK (tCons (tC v) tNil))) P := ⟨fun {I H σ E} s e => fun p hp => ⟨.ref p, v, rfl, e.nx q (Ext.refl' _) ((make_slotK s i hp).set (hv _) j)⟩⟩
end
/-! ### f(..).append(e): a list that nobody else knows -/
theorem Blk.appTmp {K : PySem.W.Frag} {F : Fr} {ρ : List Slot} {d : D} {sb : Bool} {R : List D → D → Prop} {X : XK} {tA : TA} {tv : TE} {ds es : List D} {P : Ps} (h : GvA K F ρ tA ds) (hf : ∀ {I J : Hp} {vs : List V}, Ats K I vs ds → Ats K J vs ds) (hR : R ds (.lst es)) (he : GvE K F ρ tv d) (hl : es.length < 16777216) (q : P.nx ρ) :
    Blk K F ρ (tDrop (tBM K "list" rAppend (tCall (spD K sb R) [] X tA) (tCons tv tNil))) P := ⟨fun {I H σ E} s e => h.run s fun vs I1 H1 s1 a1 => by
  refine ⟨[], fun _ => none, ds, .lst es, (fun p o z => by cases z), (fun q hq => by cases hq), fun _ => rfl, ?_, hR, fun v I' H' st av => ?_⟩
  · rw [List.append_nil]
    exact hf a1
  obtain ⟨p, xs, rfl, hp, ax⟩ := av.inv_lst
  have fresh : H1 p = none := Classical.byContradiction fun z => by
    have := st.n p z rfl
    rw [hp] at this
    cases this
  have hH : H' p = some (.lst xs) := (st.u p _ hp).1 List.not_mem_nil
  have s1' := s.step s1
  have z1 : Sta K F ρ I1 σ H' := s1'.more st.h
  refine ⟨tyLst hH, he.run z1 fun y I2 H2 s2 a2 => ?_⟩
  have h2 : H2 p = some (.lst xs) := s2.h _ _ hH
  have hI1 : I1 p = none := s1'.ok.u.no fresh
  have hI2 : I2 p = none := s2.n p (by rw [hH]; exact fun z => nomatch z) hI1
  refine ⟨p, xs, y, rfl, rfl, h2, by rw [Paired.length ax]; exact hl, e.nx q (ext_trans s1.i s2.i) ?_⟩
  have hF : F.H0 p = none := Classical.byContradiction fun z => ext_ne s1'.ok.h z fresh
  obtain ⟨fp, sl, nd, k⟩ := s1'.sl
  have hfp : p ∉ fp := fun z => (k p z).2.2 fresh
  have old : ∀ q, H1 q ≠ none → H2 q = H1 q := fun q hn => by
    cases w : H1 q with
    | none => exact absurd w hn
    | some o => exact s2.h q o (st.h q o w)
  have o2 := z1.ok.step s2
  refine ⟨⟨o2.i, fun q o hq => ?_, o2.n, fun q o hq => ?_, o2.l⟩, fp, sl.step s2.i fun q hq => ?_, nd, fun q hq => ?_⟩
  · rw [upd_ne fun e => by rw [e, hF] at hq; cases hq]
    exact o2.h q o hq
  · rw [upd_ne fun e => by rw [e, hI2] at hq; cases hq]
    exact o2.u q o hq
  · have : q ≠ p := fun e => hfp (e ▸ hq)
    rw [upd_ne this]
    exact old q (k q hq).2.2
  · have : q ≠ p := fun e => hfp (e ▸ hq)
    obtain ⟨b1, b2, b3⟩ := k q hq
    refine ⟨s2.n q (ext_ne st.h b3) b1, b2, ?_⟩
    rw [upd_ne this, old q b3]
    exact b3⟩
/-! ### a number among numbers -/
theorem in_ints {z : Int} {zs : List Int} : inV (.int z) (zs.map V.int) = decide (z ∈ zs) := by
  unfold inV
  rw [List.any_map]
  induction zs with
  | nil => rfl
  | cons y r ih =>
    rw [List.any_cons, ih]
    by_cases e : y = z
    · subst e
      rw [decide_eq_true (List.mem_cons_self (a := y) (l := r))]
      have : ((fun x => eqV x (V.int y)) ∘ V.int) y = true := by simp [eqV]
      rw [this]
      rfl
    · have h1 : ((fun x => eqV x (V.int z)) ∘ V.int) y = false := by simp [eqV, e]
      rw [h1, Bool.false_or]
      by_cases h : z ∈ r
      · rw [decide_eq_true h, decide_eq_true (List.mem_cons_of_mem _ h)]
      · rw [decide_eq_false h, decide_eq_false fun w => (List.mem_cons.mp w).elim (fun w => e w.symm) h]
theorem rl_inTI {K : PySem.W.Frag} {F : Fr} {x : Int} {ys : List Int} : Rl2 K F (rIn K false) (.int x) (.tup (ys.map D.int)) (.bl (decide (x ∈ ys))) := ⟨fun o a b k => by
  obtain ⟨p, xs, rfl, hp, ax⟩ := b.inv_tup
  have e := ats_ints ax
  obtain rfl := a.inv_int
  refine ⟨p, xs, rfl, .inr (o.u.sqT hp), rfl, by rw [e, List.all_map, List.all_eq_true]; exact fun _ _ => rfl, k _ _ _ (.refl o.u) ?_⟩
  rw [e, in_ints]
  exact .bl _⟩
/-! ### a text taken many times -/
def rRepS : R2 := fun x y H Q => ∃ a n, x = .str a ∧ y = .int n ∧ MulOk a n ∧ Q (.str (Txt.mul a n)) H
theorem op_repS {X : Cx} : OpR X (binaryOp .Mult) rRepS := by
  intro pins s σ H x y v u Q I rx ry h
  obtain ⟨a, n, rfl, rfl, hm, q⟩ := h
  obtain ⟨t, rfl⟩ := rx
  obtain ⟨t', rfl⟩ := ry
  exact SB.mul hm fun t' k => ⟨.str (Txt.mul a n), H, I.tok _, ⟨_, rfl⟩, q⟩
theorem rl_repS {K : PySem.W.Frag} {F : Fr} {a : Str} {n : Int} (h : MulOk a n) : Rl2 K F rRepS (.str a) (.int n) (.str (Txt.mul a n)) := ⟨fun o x y k => ⟨a, n, x.inv_str, y.inv_int, h, k _ _ _ (.refl o.u) (.str _)⟩⟩
end Own

set_option Elab.async false
set_option maxRecDepth 100000
set_option maxHeartbeats 4000000
set_option linter.all false
/-! Where an exception is handled: a list walked to its end, a comprehension over a list, a def that is handed the exception. -/
namespace Own
open PySem PySem.Spec PyProof.Rows L2 HotX L2H
section
variable {prog : Program} {w : World} {A : Around} {E : Value → Shared → Prop} {s : Shared}
theorem nextEnd_hot {it l x1 : Addr} {i : Nat} {xs : Array Value} {Q : Option Value → Shared → Prop} (hot : HotAt A x1 s.heap) (hi : s.heap.IsListIter it l i) (hl : s.heap.IsList l xs) (hx : xs[i]? = none)
    (hQ : ∀ h', (∀ b o, b ≠ it → s.heap.get? b = some o → h'.get? b = some o) → Q none { s with heap := h' }) : wpAny (model prog w) A (pyNext (.ref it)) Q E s := by
  obtain ⟨o, g, c, d⟩ := id hi; obtain ⟨ol, gl, _, nl, dl⟩ := hl; obtain ⟨hh, o1, vs1, g1, d1, c1⟩ := hot
  have ne : x1 ≠ it := fun z => by
    rw [z, g] at g1; cases g1; rw [d] at d1; cases d1
    simp at c1
  unfold pyNext
  refine wpAny_bind (wpAny_attempt (wpAny_callSpecial?_slot (name := Str.ofString "__next__") hi.typeIs slot_listiter_next (wpAny_call_entry slot_listiter_next hi.typeIs entry_listiter_next ?_ (args_listiter_next _))))
  show wpAny _ _ (field (.ref it) 0 >>= _) _ _ s; refine wpAny_bind (wpAny_field g d (x := .ref l) rfl ?_)
  show wpAny _ _ (if (Value.ref l == Value.none) = true then _ else _) _ _ s; rw [if_neg (show ¬ ((Value.ref l == Value.none) = true) from Bool.false_ne_true)]
  show wpAny _ _ (field (.ref it) 1 >>= _) _ _ s; refine wpAny_bind (wpAny_field g d (x := .int i 0) rfl ?_)
  show wpAny _ _ (seqItems? (.ref l) >>= _) _ _ s; refine wpAny_bind (wpAny_seqItems gl dl ?_)
  simp only [Int.toNat_natCast, hx]; refine wpAny_bind (wpAny_rule (wpAny_bind (wpAny_setField g d (by simp) ?_)))
  show wpAny _ _ (newExc (.type "StopIteration") [] >>= _) _ _ _; refine wpAny_bind ?_
  simp only [newExc, newTuple]; refine wpAny_bind (wpAny_newObj_type ?_ (by size_fits))
  refine wpAny_bind (m := firstArgMember _ _) (wpAny_of_eq (a := Value.none) (by first | rfl | (simp only [firstArgMember]; rfl)) ?_); refine wpAny_newObj_type ?_ (by size_fits)
  have g2 : ∀ {f : Obj → Obj} {b o}, b ≠ it → s.heap.get? b = some o → (s.heap.update it f).get? b = some o := fun {f b o} hb e => by rw [Heap.get?_update_other _ _ (Ne.symm hb)]; exact e
  refine raiseNew_hot (x1 := x1) ⟨hh, o1, vs1, Heap.get?_push_of_some _ (Heap.get?_push_of_some _ (g2 ne g1)), d1, c1⟩ (Nat.ne_of_lt (Heap.lt_size (Heap.get?_push_of_some _ (g2 ne g1)))) (Heap.get?_push_size _ rfl) rfl (by first | (simp; done) | (simp; omega) | (simp only [Array.size_append]; simp; omega)) ?_
  refine wpAny_bind (wpAny_isInstance (T := "StopIteration") (b := true) ⟨_, Heap.get?_update_self _ (Heap.get?_push_size _ rfl) rfl, rfl⟩ isSubtype_stop ?_)
  exact wpAny_pure (hQ _ fun b o hb e => by rw [Heap.get?_update_other _ _ (Nat.ne_of_gt (Heap.lt_size (Heap.get?_push_of_some _ (g2 hb e))))]; exact Heap.get?_push_of_some _ (Heap.get?_push_of_some _ (g2 hb e)))
theorem tupEnd_hot {it l x1 : Addr} {i : Nat} {xs : Array Value} {Q : Option Value → Shared → Prop} (hot : HotAt A x1 s.heap) (hi : s.heap.IsTupleIter it l i) (hl : s.heap.IsTuple l xs) (hx : xs[i]? = none)
    (hQ : ∀ h', (∀ b o, b ≠ it → s.heap.get? b = some o → h'.get? b = some o) → Q none { s with heap := h' }) : wpAny (model prog w) A (pyNext (.ref it)) Q E s := by
  obtain ⟨o, g, c, d⟩ := id hi; obtain ⟨ol, gl, _, nl, dl⟩ := hl; obtain ⟨hh, o1, vs1, g1, d1, c1⟩ := hot
  have ne : x1 ≠ it := fun z => by
    rw [z, g] at g1; cases g1; rw [d] at d1; cases d1
    simp at c1
  unfold pyNext
  refine wpAny_bind (wpAny_attempt (wpAny_callSpecial?_slot (name := Str.ofString "__next__") hi.typeIs F.slot_tuple_iterator_next (wpAny_call_entry F.slot_tuple_iterator_next hi.typeIs F.entry_tuple_iterator_next ?_ (F.args_tuple_iterator_next_1 _))))
  show wpAny _ _ (field (.ref it) 0 >>= _) _ _ s; refine wpAny_bind (wpAny_field g d (x := .ref l) rfl ?_)
  show wpAny _ _ (if (Value.ref l == Value.none) = true then _ else _) _ _ s; rw [if_neg (show ¬ ((Value.ref l == Value.none) = true) from Bool.false_ne_true)]
  show wpAny _ _ (field (.ref it) 1 >>= _) _ _ s; refine wpAny_bind (wpAny_field g d (x := .int i 0) rfl ?_)
  show wpAny _ _ (seqItems? (.ref l) >>= _) _ _ s; refine wpAny_bind (wpAny_seqItems gl dl ?_)
  simp only [Int.toNat_natCast, hx]; refine wpAny_bind (wpAny_rule (wpAny_bind (wpAny_setField g d (by simp) ?_)))
  show wpAny _ _ (newExc (.type "StopIteration") [] >>= _) _ _ _; refine wpAny_bind ?_
  simp only [newExc, newTuple]; refine wpAny_bind (wpAny_newObj_type ?_ (by size_fits))
  refine wpAny_bind (m := firstArgMember _ _) (wpAny_of_eq (a := Value.none) (by first | rfl | (simp only [firstArgMember]; rfl)) ?_); refine wpAny_newObj_type ?_ (by size_fits)
  have g2 : ∀ {f : Obj → Obj} {b o}, b ≠ it → s.heap.get? b = some o → (s.heap.update it f).get? b = some o := fun {f b o} hb e => by rw [Heap.get?_update_other _ _ (Ne.symm hb)]; exact e
  refine raiseNew_hot (x1 := x1) ⟨hh, o1, vs1, Heap.get?_push_of_some _ (Heap.get?_push_of_some _ (g2 ne g1)), d1, c1⟩ (Nat.ne_of_lt (Heap.lt_size (Heap.get?_push_of_some _ (g2 ne g1)))) (Heap.get?_push_size _ rfl) rfl (by first | (simp; done) | (simp; omega) | (simp only [Array.size_append]; simp; omega)) ?_
  refine wpAny_bind (wpAny_isInstance (T := "StopIteration") (b := true) ⟨_, Heap.get?_update_self _ (Heap.get?_push_size _ rfl) rfl, rfl⟩ isSubtype_stop ?_)
  exact wpAny_pure (hQ _ fun b o hb e => by rw [Heap.get?_update_other _ _ (Nat.ne_of_gt (Heap.lt_size (Heap.get?_push_of_some _ (g2 hb e))))]; exact Heap.get?_push_of_some _ (Heap.get?_push_of_some _ (g2 hb e)))
/-- a, b, .. = a tuple, there -/
theorem unpack_hot {t x1 : Addr} {xs : Array Value} {targets : List (Bool × (Value → Sem Unit))} {Q : Unit → Shared → Prop} (hot : HotAt A x1 s.heap) (ht : s.heap.IsTuple t xs) (hn : targets.length = xs.size) (star : targets.findIdx? (·.1) = none)
    (h : ∀ h', (∀ b o, s.heap.get? b = some o → h'.get? b = some o) → wpAny (model prog w) A (assignInOrder (targets.map (·.2)) xs.toList) Q E { s with heap := h' }) : wpAny (model prog w) A (unpack (.ref t) targets) Q E s := by
  have lt : t ≠ s.heap.objs.size := by obtain ⟨o, ho, _⟩ := ht; exact Nat.ne_of_lt (Heap.lt_size ho)
  unfold unpack unpackItems notIterableAtAll; rw [hn, star]
  refine wpAny_bind (wpAny_holding (wpAny_bind (wpAny_bind (wpAny_specialOf ht.typeIs F.slot_tuple_iter.lookup (wpAny_pure ?_)))))
  simp only [Bool.false_eq_true, if_false]
  refine wpAny_bind (wpAny_holding (wpAny_pyIter_tuple ht (wpAny_bind (wpAny_holding (wpAny_draw_tuple lt xs.size 0 _ _ ⟨_, Heap.get?_push_size _ rfl, rfl, rfl⟩ (ht.push _) (by omega) fun h₁ i1 sb => ?_)))))
  have all : List.take xs.size (List.drop 0 xs.toList) = xs.toList := by rw [List.drop_zero]; exact List.take_of_length_le (by simp)
  rw [all, if_neg (by simp)]
  have keep : ∀ b o, s.heap.get? b = some o → h₁.get? b = some o := fun b o e => (sb.2 b (Nat.ne_of_lt (Heap.lt_size e))).trans (Heap.get?_push_of_some _ e)
  have hot1 : HotAt A x1 h₁ := by obtain ⟨hh, o1, vs1, g1, d1, c1⟩ := hot; exact ⟨hh, o1, vs1, keep _ _ g1, d1, c1⟩
  refine wpAny_bind (wpAny_holding (tupEnd_hot hot1 i1 ((ht.push _).extBut sb.extBut lt) (by simp) fun h₂ k2 => ?_))
  simp only [Option.isSome_none, Bool.false_eq_true, if_false]
  exact wpAny_pure (h h₂ fun b o e => k2 b o (Nat.ne_of_lt (Heap.lt_size e)) (keep b o e))
end
/-- a target where the exception p is handled: p stands among the pins -/
structure PGh (X : Cx) (p : Addr × Obj) (tg : Expr) (g : TG) : Prop where
  run : ∀ (pins : List (Addr × Obj)) (s : Shared) (σ : L2.St) (H : Hp) (v : V) (u : Value) (Q : L2.St → Hp → Prop), p ∈ pins → Inv X pins σ H s → RelV v u → g v σ H Q → wpAny (model X.prog X.w) X.A (assign tg X.env u) (fun _ s' => ∃ σ' H', Inv X pins σ' H' s' ∧ Q σ' H') X.xe s
theorem PGh.of {X : Cx} {p : Addr × Obj} {tg : Expr} {g : TG} (h : PG X tg g) : PGh X p tg g := ⟨fun pins s σ H v u Q _ I r hw => h.run pins s σ H v u Q I r hw⟩
theorem pgh_tup {X : Cx} {p : Addr × Obj} {es : List Expr} {k : Nat} {t : TGs} {n : Nat} {pos : Pos} (hot : Hot1 X.A p) (h : PGs X es t) (hn : (assignEach es X.env).length = n := by rfl) (hst : (assignEach es X.env).findIdx? (·.1) = none := by rfl) : PGh X p (.Tuple es k pos) (gTup X.K n t) := ⟨fun pins s σ H v u Q hp I r hw => by
  obtain ⟨a, xs, rfl, hq, hl, hw⟩ := hw; cases r
  obtain ⟨its, rv, ht, hz⟩ := I.tuple hq; obtain ⟨hh, v1, e1, c1⟩ := hot
  rw [arm_assign_Tuple]
  refine wpAny_bind (wpAny_standAt (unpack_hot ⟨hh, p.2, v1, (I.pin p (List.mem_append_right _ hp)).1, e1, c1⟩ (show s.heap.IsTuple a its.toArray from ht) (by simp [hn, ← hl, rv.length]) hst fun h' k => ?_))
  exact h.run pins _ σ H xs _ Q (I.kept (t' := s.toks) k) (by simpa using rv) hw⟩
/-! ### a comprehension over a list there -/
section
variable {X : Cx}
theorem lcH {pins : List (Addr × Obj)} {s : Shared} {σ : L2.St} {H : Hp} {Q : VK} {elt tg iter : Expr} {ifs : List Expr} {scope : Scope} {own : List (Str × Nat)} {pos pos' : Pos} {ti : TE} {g : TG} {tt : TT} {te : TE} {use : Option (Value → Sem Unit)} {Qf : Value → Shared → Prop}
    (hot : HotC X) (nd : X.N.Nodup) (I : Inv X pins σ H s) (hi : PE X iter ti) (ok : BlkOk X.N X.env.scope scope own)
    (hg : ∀ (s : Shared) (H : Hp) (C : Addr) (cl : List (Str × Addr)) (fp : List Addr) (p : Addr × Obj), Hot1 X.A p → PGh (X.blk s H scope (compEnvC scope cl C X.env) fp) p tg g)
    (ht : ∀ (s : Shared) (H : Hp) (C : Addr) (cl : List (Str × Addr)) (fp : List Addr), PTs (X.blk s H scope (compEnvC scope cl C X.env) fp) ifs tt)
    (he : ∀ (s : Shared) (H : Hp) (C : Addr) (cl : List (Str × Addr)) (fp : List Addr), PE (X.blk s H scope (compEnvC scope cl C X.env) fp) elt te) (fold : ∀ x, foldedSetIterable iter X.env x = pure x) (h : tLc (iList X.K ti) g tt te (own.map (·.2)) σ H Q)
    (fin0 : ∀ D C s' m H', Inv X pins σ H' s' → Q (.ref D) H' → s'.heap.Ns C m → FpOk X pins H' C → compPost (model X.prog X.w) X.A X.xe use Qf (.ref D) C (.ok .next) s') :
    wpAny (model X.prog X.w) X.A (comprehension (.ListComp elt [⟨tg, iter, ifs, 0⟩] scope pos) scope X.env pos' (newList []) false (eval iter X.env) use) Qf X.xe s := by
  obtain ⟨p, ⟨hh, v1, e1, c1⟩, hp⟩ := hot
  have cells : ∀ y ∈ scope.names, y.2 = .free → ∃ c, X.env.cells.lookup y.1 = some c := fun y hy e => (ok.free y hy e).elim (fun k => I.ok.has _ (.inl k)) fun k => I.ok.has _ (.inr k)
  refine wpAny_comprehension_free (use := use) rfl fold (closure_ok cells) ok.kind (fun y hy e => by rw [ok.uniq y hy, e]) (thn (hi.run pins s σ H _ I h) fun v s1 ⟨x, H1, I1, rx, a, ex, ⟨xs, hq⟩, q⟩ => ?_)
  subst ex; cases rx
  obtain ⟨its, rv, pl, hz⟩ := I1.list hq
  refine wpAny_pyIter_list pl.isList (wpAny_newObj_type (newEnv_comp ?_) (by show 0 ≤ sizeLine; decide))
  -- the iterator, the new list
  generalize hit : s1.heap.objs.size = it
  generalize hb2 : s1.heap.push { cls := .type "list_iterator", data := .fields #[.ref a, .int 0 0] } = b2
  have k2 : ∀ b o, s1.heap.get? b = some o → b2.get? b = some o := fun b o e => by rw [← hb2]; exact Heap.get?_push_of_some _ e
  have sz2 : b2.objs.size = it + 1 := by rw [← hb2, Heap.size_push, hit]
  have I2 : Inv X pins σ H1 { s1 with heap := b2 } := I1.kept (t' := s1.toks) k2
  have st2 : b2.IsListIter it a 0 := ⟨_, by rw [← hb2, ← hit]; exact Heap.get?_push_size _ rfl, rfl, rfl⟩
  have f2 : FpOk X pins H1 it := I1.fpOk (Nat.le_of_eq hit) (I1.hok.fresh (Nat.le_of_eq hit))
  generalize hD : b2.objs.size = D
  have nD : H1 D = none := I2.hok.fresh (Nat.le_of_eq hD)
  have itD : it < D := by rw [← hD, sz2]; exact Nat.lt_succ_self _
  obtain ⟨W, ⟨m0, w0⟩, turn⟩ := q D nD
  generalize hs3 : ({ s1 with heap := b2.push { cls := .type "list", data := .seq ([] : List Value).toArray } } : Shared) = s3
  have h3 : s3.heap = b2.push { cls := .type "list", data := .seq ([] : List Value).toArray } := by rw [← hs3]
  have I3 : Inv X pins σ (upd H1 D (.lst [])) s3 := by
    rw [← hs3]
    exact I2.laid (t' := s1.toks) (fun b o e => Heap.get?_push_of_some _ e) (Nat.le_of_eq hD) ⟨Nat.zero_le _, [], 0, .nil, by rw [← hD]; exact Heap.get?_push_size _ rfl⟩
  have st3 : s3.heap.IsListIter it a 0 := st2.at fun o e => by rw [h3]; exact Heap.get?_push_of_some _ e
  have f3 : ∀ b ∈ [it], FpOk X pins (upd H1 D (.lst [])) b ∧ b < s3.heap.objs.size := fun b hb => by
    obtain rfl := List.mem_singleton.mp hb
    exact ⟨⟨by rw [upd_ne (Nat.ne_of_lt itD)]; exact f2.1, f2.2⟩, by rw [h3, Heap.size_push, hD]; exact Nat.lt_succ_of_lt itD⟩
  have hq3 : SqL X.K (upd H1 D (.lst [])) a xs := hq.ext fun r o e => by rw [upd_ne fun z => by rw [z, nD] at e; cases e]; exact e
  -- the block
  have I4 := block_start I3 ok nd f3
  have pg := hg s3 (upd H1 D (.lst [])) s3.heap.objs.size (cellsFrom (s3.heap.objs.size + 1) scope.names (cloFrom X.env.cells scope.names [])) [it] p ⟨hh, v1, e1, c1⟩
  have pt := ht s3 (upd H1 D (.lst [])) s3.heap.objs.size (cellsFrom (s3.heap.objs.size + 1) scope.names (cloFrom X.env.cells scope.names [])) [it]
  have pe := he s3 (upd H1 D (.lst [])) s3.heap.objs.size (cellsFrom (s3.heap.objs.size + 1) scope.names (cloFrom X.env.cells scope.names [])) [it]
  show codeAny _ _ (.compStart (.ListComp elt [⟨tg, iter, ifs, 0⟩] scope pos) 0 (.ref it) (.ref D) (compEnvC scope (cellsFrom (s3.heap.objs.size + 1) scope.names (cloFrom X.env.cells scope.names [])) s3.heap.objs.size X.env)) (compPost (model X.prog X.w) X.A X.xe use Qf (.ref D) s3.heap.objs.size) { s3 with heap := pushCells (s3.heap.push { cls := .type "dict", data := .dict #[] }) scope.names }
  generalize hce : compEnvC scope (cellsFrom (s3.heap.objs.size + 1) scope.names (cloFrom X.env.cells scope.names [])) s3.heap.objs.size X.env = ce at I4 pg pt pe ⊢
  have cL : ce.locals = s3.heap.objs.size := by subst hce; rfl
  generalize hH3 : upd H1 D (.lst []) = H3 at I3 I4 pg pt pe w0 f3 hq3
  generalize hs4 : ({ s3 with heap := pushCells (s3.heap.push { cls := .type "dict", data := .dict #[] }) scope.names } : Shared) = s4 at I4 ⊢
  have st4 : s4.heap.IsListIter it a 0 := st3.at fun o e => by rw [← hs4]; exact pushCells_keeps _ _ _ _ (Heap.get?_push_of_some _ e)
  -- the exception that is handled stays among the pins
  have P3 := I3.pin p (List.mem_append_left _ hp)
  have P4 : s4.heap.get? p.1 = some p.2 := by rw [← hs4]; exact pushCells_keeps _ _ _ _ (Heap.get?_push_of_some _ P3.1)
  have J4 : Inv (X.blk s3 H3 scope ce [it]) [p] (wipe σ (own.map (·.2))) H3 s4 := I4.pins_of fun r hr => by
    obtain rfl := List.mem_singleton.mp hr
    exact ⟨P4, P3.2.1, by show r.1 ≠ ce.locals; rw [cL]; exact Nat.ne_of_lt (Heap.lt_size P3.1), fun z => (List.mem_cons.mp (I3.stkSub r.1 z)).elim P3.2.2.1 P3.2.2.2.1, P3.2.2.2.2⟩
  have pit : p.1 ≠ it := fun z => by
    obtain ⟨o, g1, _, g2⟩ := st3
    rw [← z, P3.1] at g1; cases g1; rw [e1] at g2; cases g2
    simp at c1
  have hotB : ∀ {σ' : L2.St} {H' : Hp} {s' : Shared}, Inv (X.blk s3 H3 scope ce [it]) [p] σ' H' s' → HotAt X.A p.1 s'.heap := fun I' => ⟨hh, p.2, v1, (I'.pin p (List.mem_append_right _ List.mem_cons_self)).1, e1, c1⟩
  have stat : ∀ {σ' : L2.St} {H' : Hp} {s' : Shared}, Inv (X.blk s3 H3 scope ce [it]) [p] σ' H' s' → H' it = none → FpOk (X.blk s3 H3 scope ce [it]) [p] H' it := fun {σ' H' s'} I' hn =>
    ⟨hn, (I'.ok.exf it List.mem_cons_self).1, I'.ok.exfs it List.mem_cons_self, .inl List.mem_cons_self, fun y c e => (I'.ok.exf it List.mem_cons_self).2 y c e, fun r hr => by rw [List.mem_singleton.mp (show r ∈ [p] from hr)]; exact pit⟩
  have loop : codeAny (model X.prog X.w) X.A (.compLoop (.ListComp elt [⟨tg, iter, ifs, 0⟩] scope pos) 0 (.ref it) (.ref D) ce) (compPost (model X.prog X.w) X.A X.xe use Qf (.ref D) s3.heap.objs.size) s4 := by
    refine compLoop_any (fun n s' => ∃ i H', Inv (X.blk s3 H3 scope ce [it]) [p] (wipe σ (own.map (·.2))) H' s' ∧ s'.heap.IsListIter it a i ∧ H' it = none ∧ W i n H') ?_ m0 ⟨0, H3, J4, st4, (f3 it List.mem_cons_self).1.1, w0⟩
    rintro n s5 ⟨i, H5, I5, st5, n5, w5⟩
    obtain ⟨F0, F1, F2, F3, F4, F5⟩ := stat I5 n5
    rcases turn i n H5 w5 with ⟨⟨ys, hy, hlen⟩, qq⟩ | ⟨⟨ys, y, hy, hyi⟩, Nx, hNx, step⟩
    · obtain ⟨zs, rz, pz, _⟩ := I5.list hy
      have lz := rz.length
      refine nextEnd_hot (hotB I5) st5 pz.isList (by simp; omega) fun h' keep => ?_
      have I6 : Inv (X.blk s3 H3 scope ce [it]) [p] (wipe σ (own.map (·.2))) H5 { s5 with heap := h' } := I5.turned (t' := s5.toks) (fun b o hb e => keep b o hb e) F0 F1 F3 F4 F5
      have I7 : Inv X pins σ H5 { s5 with heap := h' } := I3.call' (ch := [it]) I6.os I6.base I6.hok I6.bare fun b hb => ⟨(f3 b hb).1.2.2.2.1, (f3 b hb).1.2.1, (f3 b hb).1.2.2.2.2.1, (f3 b hb).1.2.2.2.2.2⟩
      have nC : H5 s3.heap.objs.size = none := by rw [← cL]; exact I6.free
      obtain ⟨m, hn, _⟩ := I6.loc
      have hn : h'.Ns ce.locals m := hn
      rw [cL] at hn
      exact fin0 D s3.heap.objs.size _ m H5 I7 qq hn (I3.fpOk (Nat.le_refl _) nC)
    · obtain ⟨zs, rz, pz, _⟩ := I5.list hy
      obtain ⟨u, hu, ru⟩ := rz.get hyi
      refine wpAny_pyNext_list_item st5 pz.isList (x := u) (by simpa using hu) fun h' st6 sb => ?_
      have I6 : Inv (X.blk s3 H3 scope ce [it]) [p] (wipe σ (own.map (·.2))) H5 { s5 with heap := h' } := I5.turned (t' := s5.toks) (fun b o hb e => (sb.2 b hb).trans e) F0 F1 F3 F4 F5
      obtain ⟨oi, gi, ci, di⟩ := id st6
      refine go_of (s := { s5 with heap := h' }) gi ci di (by decide) ?_
      have yl : (Itl X.K a).yld i H5 y H5 := ⟨rfl, fun ws hw => by rw [I5.list_inj hw hy]; exact hyi⟩
      -- the iterator among the pins, while the block's parts run
      have f6 := stat I6 n5
      have I6' : Inv (X.blk s3 H3 scope ce [it]) [p, (it, oi)] (wipe σ (own.map (·.2))) H5 { s5 with heap := h' } := I6.pins_of fun r hr => by
        rcases List.mem_cons.mp (show r ∈ [p, (it, oi)] from hr) with z | z
        · exact I6.pin r (List.mem_append_right _ (by rw [z]; exact List.mem_cons_self))
        · rw [List.mem_singleton.mp z]
          exact ⟨gi, f6.1, f6.2.1, f6.2.2.1, fun v z => by rw [di] at z; cases z⟩
      have gg := pg.run [p, (it, oi)] _ (wipe σ (own.map (·.2))) H5 y u _ List.mem_cons_self I6' ru (step y H5 yl)
      refine thnF gg fun _ s8 ⟨σ8, H8, I8, hw8, q8⟩ => ?_
      refine thnF (pt.run _ s8 σ8 H8 _ I8 q8) fun b s9 ⟨H9, I9, q9⟩ => ?_
      have fin : ∀ {s' : Shared} {H' : Hp}, Inv (X.blk s3 H3 scope ce [it]) [p, (it, oi)] σ8 H' s' → Nx H' → ∃ m, m < n ∧ ∃ i H', Inv (X.blk s3 H3 scope ce [it]) [p] (wipe σ (own.map (·.2))) H' s' ∧ s'.heap.IsListIter it a i ∧ H' it = none ∧ W i m H' := fun {s' H'} I' nx => by
        obtain ⟨m', hm, w'⟩ := hNx H' nx
        have z := I'.pin (it, oi) (List.mem_append_right _ (List.mem_cons_of_mem _ List.mem_cons_self))
        have hl : (wipe σ (own.map (·.2))).length = σ8.length := by rw [← hw8, wipe_length]
        refine ⟨m', hm, i + 1, H', (I'.pins_of fun r hr => I'.pin r (List.mem_append_right _ (by rw [List.mem_singleton.mp (show r ∈ [p] from hr)]; exact List.mem_cons_self))).weak hl fun j v e => ?_, ⟨oi, z.1, ci, di⟩, z.2.1, w'⟩
        rw [← hw8] at e
        exact (wipe_some e).1
      cases b with
      | false => exact fin I9 q9
      | true => exact thnF (pe.run _ s9 σ8 H9 _ I9 q9) fun z s10 ⟨yv, H10, I10, r10, acc, hD10, hz10, nx⟩ => app_ok (X := X.blk s3 H3 scope ce [it]) I10 hD10 hz10 r10 fun s11 I11 => fin I11 nx
  exact codeAny_compStart_list loop (wpAny_pyIter_listiter st4 loop)
theorem pe_lcH {elt tg iter : Expr} {ifs : List Expr} {scope : Scope} {own : List (Str × Nat)} {pos : Pos} {ti : TE} {g : TG} {tt : TT} {te : TE} (hot : HotC X) (nd : X.N.Nodup) (hi : PE X iter ti) (ok : BlkOk X.N X.env.scope scope own)
    (hg : ∀ (s : Shared) (H : Hp) (C : Addr) (cl : List (Str × Addr)) (fp : List Addr) (p : Addr × Obj), Hot1 X.A p → PGh (X.blk s H scope (compEnvC scope cl C X.env) fp) p tg g)
    (ht : ∀ (s : Shared) (H : Hp) (C : Addr) (cl : List (Str × Addr)) (fp : List Addr), PTs (X.blk s H scope (compEnvC scope cl C X.env) fp) ifs tt)
    (he : ∀ (s : Shared) (H : Hp) (C : Addr) (cl : List (Str × Addr)) (fp : List Addr), PE (X.blk s H scope (compEnvC scope cl C X.env) fp) elt te) (fold : ∀ x, foldedSetIterable iter X.env x = pure x := by intro _; rfl) :
    PE X (.ListComp elt [⟨tg, iter, ifs, 0⟩] scope pos) (tLc (iList X.K ti) g tt te (own.map (·.2))) := ⟨fun pins s σ H Q I h => by
  rw [eval_ListComp]
  exact lcH hot nd I hi ok hg ht he fold h fun D C s' m H' I' q hn ⟨k0, k1, k2, k3, k4, k5⟩ => ⟨m, hn, fun h'' sb => ⟨.ref D, H', I'.turned (t' := s'.toks) (fun b o hb e => (sb.2 b hb).trans e) k0 k1 k3 k4 k5, rfl, q⟩⟩⟩
/-- name = [..] on one line there -/
theorem ps_setLcH {i : Nat} {y : Str} {py : Pos} {elt tg iter : Expr} {ifs : List Expr} {scope : Scope} {own : List (Str × Nat)} {pos spos : Pos} {ti : TE} {g : TG} {tt : TT} {te : TE} (hot : HotC X) (nd : X.N.Nodup) (hy : X.N[i]? = some y) (hyl : X.env.scope.names.lookup y = some .local)
    (sw : swapsWith (.ListComp elt [⟨tg, iter, ifs, 0⟩] scope pos) (some (.Name y py)) spos.line X.env = pure true) (hi : PE X iter ti) (ok : BlkOk X.N X.env.scope scope own)
    (hg : ∀ (s : Shared) (H : Hp) (C : Addr) (cl : List (Str × Addr)) (fp : List Addr) (p : Addr × Obj), Hot1 X.A p → PGh (X.blk s H scope (compEnvC scope cl C X.env) fp) p tg g)
    (ht : ∀ (s : Shared) (H : Hp) (C : Addr) (cl : List (Str × Addr)) (fp : List Addr), PTs (X.blk s H scope (compEnvC scope cl C X.env) fp) ifs tt)
    (he : ∀ (s : Shared) (H : Hp) (C : Addr) (cl : List (Str × Addr)) (fp : List Addr), PE (X.blk s H scope (compEnvC scope cl C X.env) fp) elt te) (fold : ∀ x, foldedSetIterable iter X.env x = pure x := by intro _; rfl) :
    PS X (.Assign [.Name y py] (.ListComp elt [⟨tg, iter, ifs, 0⟩] scope pos) spos) (tAsg (tLc (iList X.K ti) g tt te (own.map (·.2))) (gName i)) := ⟨fun pins s σ H D I h => by
  have h : tLc (iList X.K ti) g tt te (own.map (·.2)) σ H (fun x H1 => gName i x σ H1 D.nx) := h
  rw [exec_Assign_Name_used _ _ _ _ sw]; refine wpAny_bind (wpAny_standAt (wpAny_bind ?_))
  show wpAny _ X.A (do let _ ← comprehension (.ListComp elt [⟨tg, iter, ifs, 0⟩] scope pos) scope X.env (firstIterPos [⟨tg, iter, ifs, 0⟩] pos) (newList []) false (eval iter X.env) (some (assign (.Name y py) X.env))) _ _ s
  refine wpAny_bind (thn (lcH (Qf := fun _ s' => SP X pins D .next s') hot nd I hi ok hg ht he fold h fun L C s' m H' I' q hn f => ?_) fun _ s' hq => wpAny_pure (wpAny_pure hq))
  show wpAny _ _ (assign (.Name y py) X.env (.ref L)) _ _ _; obtain ⟨k0, k1, k2, k3, k4, k5⟩ := f
  refine wpAny_assign_Name (store_ok2 (v := V.ref L) I' nd hy (.inl hyl) rfl (fun s2 I2 ⟨a, sb, ha⟩ => ?_) (.inr hyl))
  have ne : C ≠ a := ha.elim (fun z => by rw [z]; exact k1) fun z e => k4 y a z e.symm
  exact ⟨m, hn.sameBut sb ne, fun h3 sb3 => ⟨_, H', I2.turned (t' := s2.toks) (fun b o hb e => (sb3.2 b hb).trans e) k0 k1 k3 k4 k5, q⟩⟩⟩
end
/-! ### isinstance of the exception -/
theorem call_isP {X : Cx} {a D : Addr} {oe : Obj} (C : ExcC X.K D) (hp : (a, oe) ∈ X.pn) (hz : Zc (.ref D) none oe) (hf : ∃ vs, oe.data = .fields vs) : CallR X (.builtin "isinstance") (rIsE X.K D a) := by
  intro pins s σ H xs us Q I r ⟨c, cv, b, ex, hcv, e, q⟩
  subst ex
  cases r with
  | cons rx rr =>
    cases rr with
    | cons rt rr =>
      cases rr; cases rx; obtain rfl := hcv _ rt
      obtain ⟨g, _⟩ := I.pin (a, oe) (List.mem_append_left _ hp); obtain ⟨vs, hv⟩ := hf
      have J : PySem.W.InstAt s.heap a oe D none := by
        obtain ⟨oc, od, oda, osl⟩ := oe; obtain ⟨h1, h2⟩ := hz
        dsimp only at h1 h2 hv; subst h1 h2 hv
        exact ⟨g, rfl, rfl, trivial⟩
      exact PySem.W.kia_one (PySem.W.handS_kitx_exc C.hg C.hk C.hs C.hd C.ha C.hn C.ht C.hm) I.kIn J e (fun z => nomatch z) fun tk => ⟨.bl b, H, I.kept (t' := tk) fun _ _ z => z, rfl, q⟩
/-! ### a def that is called there, handed the exception -/
abbrev SpH := Addr → Value → Option Addr → Sp
structure FnHp (P : Program) (w : World) (K : PySem.W.Frag) (mg : Str → Option Value) (base : Heap) (k : Nat) (f : Addr) (fd : FuncData) (ps : List Str) (sp : SpH) : Prop where
  len : ∀ a c d vs H Q E, sp a c d vs H Q E → vs.length = ps.length
  run : ∀ (A : Around) (outer : List Env) (s : Shared) (H : Hp) (args : Args) (us : List Value) (vs : List V) (Q : VK) (E : XK) (p : Addr × Obj) (c : Value) (d : Option Addr), RoomH k A → Hot1 A p → PinOk outer H s p → Zc c d p.2 → Env0 P w K mg base A outer s H → BindsTo s fd args (ps.zip us) → Vals vs us → sp p.1 c d vs H Q E →
    codeAny (model P w) A (.call (.ref f) args) (CR CX0 outer P w H s Q E) s
theorem Fun.okHp {P : Program} {w : World} {K : PySem.W.Frag} {mg : Str → Option Value} {base : Heap} {x qual : Str} {st : Stmt} {f : Addr} {fd : FuncData} {N ps : List Str} {k : Nat} {sp : SpH} (F : Fun K x qual st f fd) (S : FnScope N ps (defScope st)) (len : ∀ a c d vs H Q E, sp a c d vs H Q E → vs.length = ps.length)
    (hbody : ∀ (cdv : Value) (A : Around) (outer : List Env) (s : Shared) (H : Hp) (vs : List V) (Q : VK) (E : XK) (p : Addr × Obj) (c : Value) (d : Option Addr), Hot1 A p → Zc c d p.2 → RoomH k (A.deeper (envOfC qual (defScope st) s.heap.objs.size f cdv)) → sp p.1 c d vs H Q E →
      ∃ t, PSs (cxH CX0 P w K mg base N qual (defScope st) f cdv A outer s H E p).nox (defBody st) t ∧ t { nx := fun _ H' => Q .non H', rt := Q } (L2.start N vs) H) : FnHp P w K mg base (k + 1) f fd ps sp := by
  obtain ⟨oc, od, kV, doc, pm, an, cdv, ct, osl, rfl, lk, hcd⟩ := F.ex
  refine ⟨len, fun A outer s H args us vs Q E p c d hr hot hpin hz e0 hb r hsp => ?_⟩
  have hl := len _ _ _ _ _ _ _ hsp
  have KX : K.In s.heap := e0.mod.kin.keeps fun b o e => (e0.bs b o e).1
  have lim : s.heap.NoLimit := e0.mod.nolimit.keeps fun b o e => (e0.bs b o e).1
  have kinds : ∀ y ∈ ps.zip us, (defScope st).names.lookup y.1 = some .local ∨ ((defScope st).names.lookup y.1 = some .cell ∧ ((cellsFrom (s.heap.objs.size + 1) (defScope st).names []).lookup y.1).isSome = true) := fun y hy => (S.par y.1 (List.of_mem_zip hy).1).elim .inl fun q => .inr ⟨q, PySem.W.cellsFrom_some _ _ _ (.inl q)⟩
  refine codeAny_call_function hr.depth (KX _ _ lk) rfl S.co S.gen rfl (PySem.W.codeRec_of KX hcd) (hb _ _ _ _ (wpAny_newFunctionEnv_cells S.kind kinds fun env he s1 x => ?_))
  subst he
  obtain ⟨t, ht, hq⟩ := hbody cdv A outer s H vs Q E p c d hot hz (hr.deeper _) hsp
  have I : Inv (cxH CX0 P w K mg base N qual (defScope st) f cdv A outer s H E p) [] (L2.start N vs) H s1 := inv_startH S hpin e0 hl r x
  refine ⟨lim.keeps x.toInCall.keep, codeAny_func (wpAny_mono (ht.nox.run [] s1 (L2.start N vs) H _ I hq) (fun fl s' hs => ?_) fun e s' hs => hs)⟩
  have fin : ∀ {σ' : L2.St} {H' : Hp} {v : V} {u : Value}, Inv (cxH CX0 P w K mg base N qual (defScope st) f cdv A outer s H E p) [] σ' H' s' → RelV v u → Q v H' → CE outer P w H s Q u s' := fun {σ' H' v u} J rv q => ⟨v, H', J.os, J.bare, J.base, J.hok, rv, q⟩
  cases fl with
  | ret u => obtain ⟨v, σ', H', J, rv, q⟩ := hs; exact fin J rv q
  | next => obtain ⟨σ', H', J, q⟩ := hs; exact fin (v := V.non) (u := Value.none) J rfl q
  | brk => obtain ⟨_, _, _, q⟩ := hs; exact False.elim q
  | cont => obtain ⟨_, _, _, q⟩ := hs; exact False.elim q
/-- such a call -/
theorem pe_callHp {X : Cx} {k : Nat} {f : Addr} {fd : FuncData} {ps : List Str} {sp : SpH} {x : Str} {q pos : Pos} {e : Expr} {es : List Expr} {t : TA} {p : Addr × Obj} {c : Value} {d : Option Addr} (F : FnHp X.prog X.w X.K X.mg X.base k f fd ps sp) (hr : RoomH k X.A) (hot : Hot1 X.A p) (hp : p ∈ X.pn) (hz : Zc c d p.2) (hg : Gl X x) (hm : X.mg x = some (.ref f))
    (hk : PySem.W.keepIn X.K (.ref f) = true) (hb : Binds X.K fd ps []) (ha : PA X (e :: es) t) (hdb : (x == ("__debug__" : Str)) = false := by decide) (he : starEach (e :: es) X.env = (false, eval e X.env) :: starEach es X.env := by rfl) (hpl : (backTo pos (starEach es X.env)).any (·.1) = false := by rfl) :
    PE X (.Call (.Name x q) (e :: es) [] pos) (tCall (sp p.1 c d) [] E0 t) := ⟨fun pins s σ H Q I h => by
  refine wpAny_Call_Name_kw (ld_glob I hg hm (PySem.W.callWith_K (h₀ := X.base) I.ok.mod.kin hk (thn (ha.run pos pins s σ H _ I h) fun us s1 ⟨vs, H1, I1, r, q⟩ => ⟨I1.kIn, ?_⟩) he hpl) hdb)
  have q : sp p.1 c d (vs ++ []) H1 Q E0 := q
  rw [List.append_nil] at q
  show wpAny _ _ (call (.ref f) us) _ _ _
  have hl : us.length = ps.length := by rw [← r.length]; exact F.len _ _ _ _ _ _ _ q
  have b := hb s1 us I1.kIn (by rw [List.append_nil]; exact hl)
  rw [List.append_nil] at b
  have P1 := I1.pin p (List.mem_append_left _ hp)
  have pin : PinOk X.stack H1 s1 p := ⟨P1.1, P1.2.1, fun m => (List.mem_cons.mp (I1.stkSub p.1 m)).elim P1.2.2.1 P1.2.2.2.1, P1.2.2.2.2⟩
  refine wpAny_call (codeAny_mono (F.run X.A X.stack s1 H1 ⟨us, []⟩ us vs _ E0 p c d hr hot pin hz I1.env0 b r q) fun r s' hq => ?_)
  cases r with
  | error e => exact False.elim hq
  | ok fl =>
    cases fl with
    | ret u => exact I1.after hq
    | next => exact False.elim hq
    | brk => exact False.elim hq
    | cont => exact False.elim hq⟩
/-- its promise by data -/
def spHp (K : PySem.W.Frag) (R : Addr → Value → Option Addr → List D → D → Prop) : SpH := fun a c d => spD K false (R a c d)
theorem okHp {Pg : Program} {w : World} {K : PySem.W.Frag} {mg : Str → Option Value} {base : Heap} {x qual : Str} {st : Stmt} {f : Addr} {fd : FuncData} {N ps : List Str} {k : Nat} {R : Addr → Value → Option Addr → List D → D → Prop} (T : Fun K x qual st f fd) (S : FnScope N ps (defScope st)) (hl : ∀ a c d ds r, R a c d ds r → ds.length = ps.length)
    (hb : ∀ (cdv : Value) (A : Around) (outer : List Env) (s : Shared) (H : Hp) (X : XK) (p : Addr × Obj) (c : Value) (d : Option Addr), Hot1 A p → Zc c d p.2 → RoomH k (A.deeper (envOfC qual (defScope st) s.heap.objs.size f cdv)) →
      (∃ ds r, R p.1 c d ds r) → ∃ t, PSs (cxH CX0 Pg w K mg base N qual (defScope st) f cdv A outer s H X p).nox (defBody st) t ∧ ∀ F ds r, R p.1 c d ds r → Blk K F (startS N ds) t (retP r)) : FnHp Pg w K mg base (k + 1) f fd ps (spHp K R) :=
  Fun.okHp T S (fun a c d vs H Q X h => by
    obtain ⟨L, I, ds, r, u, l, hsb, at_, hR, _⟩ := h
    rw [Paired.length at_]
    exact hl a c d ds r hR) fun cdv A outer s H vs Q X p c d hot hz hr h => by
    obtain ⟨t, h1, h2⟩ := hb cdv A outer s H X p c d hot hz hr (by obtain ⟨L, I, ds, r, u, l, hsb, at_, hR, _⟩ := h; exact ⟨ds, r, hR⟩)
    exact ⟨t, h1, enter (fun F ds r hR _ => h2 F ds r hR) h⟩
end Own

set_option Elab.async false
set_option maxRecDepth 100000
set_option maxHeartbeats 4000000
set_option linter.all false
/-! Defs that raise, by data: what they raise; try .. except X as n. -/
namespace Own
open PySem PySem.Spec PyProof.Rows L2
/-- one def, both promises: with its answer, with what it raises -/
def orS (sp sx : Sp) : Sp := fun vs H Q E => sp vs H Q E ∨ sx vs H Q E
theorem FnOk.orX {P : Program} {w : World} {K : PySem.W.Frag} {mg : Str → Option Value} {base : Heap} {j k : Nat} {f : Addr} {fd : FuncData} {ps : List Str} {sp sx : Sp} (F : FnOk P w K mg base CX0 j f fd ps sp) (G : FnOk P w K mg base (L2N.CX P w) k f fd ps sx) (hj : j ≤ k) : FnOk P w K mg base (L2N.CX P w) k f fd ps (orS sp sx) :=
  ⟨fun vs H Q E h => h.elim (F.len vs H Q E) (G.len vs H Q E), fun A outer s H args us vs Q E hr e0 b r h => h.elim (fun h => codeAny_mono (F.run A outer s H args us vs Q E (hr.mono hj) e0 b r h) fun r s' hq => by
    cases r with
    | error e => exact False.elim hq
    | ok fl => cases fl <;> exact hq) fun h => G.run A outer s H args us vs Q E hr e0 b r h⟩
/-- the own dict of an exception -/
def XAt (K : PySem.W.Frag) (I H : Hp) : Option (List (Str × D)) → Option Addr → Prop
  | none, d => d = none
  | some fs, d => ∃ dd ws, d = some dd ∧ H dd = some (.xd ws) ∧ KAts K I ws fs
abbrev XR := List D → Addr → Option (List (Str × D)) → Prop
def spX (K : PySem.W.Frag) (b : Bool) (R : XR) : Sp := fun vs H _ E => ∃ L I ds C fs, Und L I H ∧ (∀ q ∈ L, I q ≠ none) ∧ (b = true → L = []) ∧ Ats K I vs ds ∧ R ds C fs ∧ ∀ d I' H', Stp L I H I' H' → XAt K I' H' fs d → E (.ref C) d H'
def spIX (K : PySem.W.Frag) (b : Bool) (C0 : Addr) (R : XR) : Sp := fun vs H _ E => ∃ L I x dx vs' ds C fs, vs = .ref x :: vs' ∧ H x = some (.ins C0 dx []) ∧ H dx = some (.own x) ∧ I x = none ∧ I dx = none ∧ dx ≠ x ∧ Und L I H ∧ (∀ q ∈ L, I q ≠ none) ∧ (b = true → L = []) ∧ Ats K I vs' ds ∧ R ds C fs ∧
  ∀ d I' H', Ext I I' → (∀ p, p ≠ x → p ≠ dx → ∀ o, H p = some o → H' p = some o) → (∀ p, H p ≠ none → I p = none → I' p = none) → Und L I' H' → XAt K I' H' fs d → E (.ref C) d H'
section
variable {K : PySem.W.Frag} {F : Fr} {ρ : List Slot} {tA : TA} {ta : TE} {ds es : List D} {d : D}
/-- an expression that raises -/
structure GvZ (K : PySem.W.Frag) (F : Fr) (ρ : List Slot) (te : XK → TE) (C : Addr) (fs : Option (List (Str × D))) : Prop where
  run : ∀ {I H : Hp} {σ : L2.St} {Q : VK} {E : XK}, Sta K F ρ I σ H → (∀ d I' H', Stp F.L I H I' H' → XAt K I' H' fs d → E (.ref C) d H') → te E σ H Q
theorem GvE.callO {sb : Bool} {R : List D → D → Prop} {sx : Sp} {X : XK} {dvs : List V} (h : GvA K F ρ tA ds) (hd : ∀ I, Ats K I dvs es) (hR : R (ds ++ es) d) (hb : sb = true → F.L = []) : GvE K F ρ (tCall (orS (spD K sb R) sx) dvs X tA) d := ⟨fun s k => h.run s fun vs I1 H1 s1 a1 => by
  have o := s.ok.step s1
  exact .inl ⟨F.L, I1, ds ++ es, d, o.u, o.l, hb, papp a1 (hd I1), hR, fun v I' H' s2 a2 => k v I' H' (s1.trans s2) a2⟩⟩
theorem GvZ.call {sb : Bool} {R : XR} {sp : Sp} {dvs : List V} {C : Addr} {fs : Option (List (Str × D))} (h : GvA K F ρ tA ds) (hd : ∀ I, Ats K I dvs es) (hR : R (ds ++ es) C fs) (hb : sb = true → F.L = []) : GvZ K F ρ (fun X => tCall (orS sp (spX K sb R)) dvs X tA) C fs := ⟨fun s k => h.run s fun vs I1 H1 s1 a1 => by
  have o := s.ok.step s1
  exact .inr ⟨F.L, I1, ds ++ es, C, fs, o.u, o.l, hb, papp a1 (hd I1), hR, fun v I' H' s2 a2 => k v I' H' (s1.trans s2) a2⟩⟩
theorem GvE.methO {sb : Bool} {R : List D → D → Prop} {sx : Sp} {X : XK} {C : Addr} {m : Str} {fs : List (Str × D)} (ha : GvE K F ρ ta (.ins C fs)) (h : GvA K F ρ tA ds) (hm : fs.lookup m = none) (hR : R (.ins C fs :: ds) d) (hb : sb = true → F.L = []) : GvE K F ρ (tMeth C m (orS (spD K sb R) sx) [] X ta tA) d := ⟨fun s k => ha.run s fun x I1 H1 s1 a1 => by
  obtain ⟨a, dx, ws, rfl, h1, h2, p⟩ := a1.inv_ins
  refine ⟨a, dx, ws, rfl, (s.ok.step s1).u.tup h1 fun z => z, look_none p hm, h.run (s.step s1) fun vs I2 H2 s2 a2 => ?_⟩
  have o := (s.ok.step s1).step s2
  exact .inl ⟨F.L, I2, .ins C fs :: ds, d, o.u, o.l, hb, by rw [List.append_nil]; exact .cons (a1.mono s2.i) a2, hR, fun v I' H' s3 a3 => k v I' H' ((s1.trans s2).trans s3) a3⟩⟩
theorem GvZ.meth {sb : Bool} {R : XR} {sp : Sp} {C C1 : Addr} {m : Str} {fs : List (Str × D)} {xs : Option (List (Str × D))} (ha : GvE K F ρ ta (.ins C fs)) (h : GvA K F ρ tA ds) (hm : fs.lookup m = none) (hR : R (.ins C fs :: ds) C1 xs) (hb : sb = true → F.L = []) : GvZ K F ρ (fun X => tMeth C m (orS sp (spX K sb R)) [] X ta tA) C1 xs := ⟨fun s k => ha.run s fun x I1 H1 s1 a1 => by
  obtain ⟨a, dx, ws, rfl, h1, h2, p⟩ := a1.inv_ins
  refine ⟨a, dx, ws, rfl, (s.ok.step s1).u.tup h1 fun z => z, look_none p hm, h.run (s.step s1) fun vs I2 H2 s2 a2 => ?_⟩
  have o := (s.ok.step s1).step s2
  exact .inr ⟨F.L, I2, .ins C fs :: ds, C1, xs, o.u, o.l, hb, by rw [List.append_nil]; exact .cons (a1.mono s2.i) a2, hR, fun v I' H' s3 a3 => k v I' H' ((s1.trans s2).trans s3) a3⟩⟩
theorem GvE.makeO {sb : Bool} {C : Addr} {R : List D → List (Str × D) → Prop} {sx : Sp} {X : XK} {fs : List (Str × D)} {dvs : List V} (h : GvA K F ρ tA ds) (hd : ∀ I, Ats K I dvs es) (hR : R (ds ++ es) fs) (hb : sb = true → F.L = []) : GvE K F ρ (tMake C (orS (spI K sb C R) sx) dvs X tA) (.ins C fs) := ⟨fun {I H σ Q} s k => h.run s fun vs I1 H1 s1 a1 => fun x dx hx hdx hne => by
  have o := s.ok.step s1
  have ix := o.u.no hx
  have idx := o.u.no hdx
  refine .inl ⟨F.L, I1, x, dx, vs ++ dvs, ds ++ es, fs, rfl, upd_same, by rw [upd_ne hne, upd_same], ix, idx, hne, fun p u hp => ?_, o.l, hb, papp a1 (hd I1), hR, fun I' H' ws e1 e2 e3 e4 e5 e6 e7 => ⟨rfl, ?_⟩⟩
  · rw [upd_ne (fun e => by rw [e, ix] at hp; cases hp), upd_ne (fun e => by rw [e, idx] at hp; cases hp)]
    exact o.u p u hp
  · have hux : L2.upd (L2.upd H1 dx (.own x)) x (.ins C dx []) x ≠ none := by rw [upd_same]; exact fun z => nomatch z
    have hud : L2.upd (L2.upd H1 dx (.own x)) x (.ins C dx []) dx ≠ none := by rw [upd_ne hne, upd_same]; exact fun z => nomatch z
    have n1 := e3 x hux ix
    have n2 := e3 dx hud idx
    have off : ∀ p, p ≠ x → p ≠ dx → L2.upd (L2.upd H1 dx (.own x)) x (.ins C dx []) p = H1 p := fun p a b => by rw [upd_ne a, upd_ne b]
    have eI : Ext I' (L2.upd (L2.upd I' dx (.own x)) x (.ins C dx ws)) := fun p u hp => by
      rw [upd_ne (fun e => by rw [e, n1] at hp; cases hp), upd_ne (fun e => by rw [e, n2] at hp; cases hp)]
      exact hp
    refine k (.ref x) (L2.upd (L2.upd I' dx (.own x)) x (.ins C dx ws)) H' (s1.trans ⟨ext_trans e1 eI, fun p u hp => ?_, fun p h1 h2 => ?_, fun p u hp => ?_⟩) (.ins' upd_same (by rw [upd_ne hne, upd_same]) (e7.mono eI))
    · have a : p ≠ x := fun e => by rw [e, hx] at hp; cases hp
      have b : p ≠ dx := fun e => by rw [e, hdx] at hp; cases hp
      exact e2 p a b u (by rw [off p a b]; exact hp)
    · have a : p ≠ x := fun e => h1 (by rw [e]; exact hx)
      have b : p ≠ dx := fun e => h1 (by rw [e]; exact hdx)
      rw [upd_ne a, upd_ne b]
      exact e3 p (by rw [off p a b]; exact h1) h2
    · by_cases a : p = x
      · subst a
        rw [upd_same] at hp
        exact ⟨fun _ => by rw [e5]; exact hp, fun z => absurd ix (o.l _ z)⟩
      · by_cases b : p = dx
        · subst b
          rw [upd_ne hne, upd_same] at hp
          exact ⟨fun _ => by rw [e6]; exact hp, fun z => absurd idx (o.l _ z)⟩
        · rw [upd_ne a, upd_ne b] at hp
          exact e4 p u hp⟩
theorem GvZ.make {sb : Bool} {C C1 : Addr} {R : XR} {sp : Sp} {xs : Option (List (Str × D))} {dvs : List V} (h : GvA K F ρ tA ds) (hd : ∀ I, Ats K I dvs es) (hR : R (ds ++ es) C1 xs) (hb : sb = true → F.L = []) : GvZ K F ρ (fun X => tMake C (orS sp (spIX K sb C R)) dvs X tA) C1 xs := ⟨fun s k => h.run s fun vs I1 H1 s1 a1 => fun x dx hx hdx hne => by
  have o := s.ok.step s1
  have off : ∀ p, p ≠ x → p ≠ dx → L2.upd (L2.upd H1 dx (.own x)) x (.ins C dx []) p = H1 p := fun p a b => by rw [upd_ne a, upd_ne b]
  refine .inr ⟨F.L, I1, x, dx, vs ++ dvs, ds ++ es, C1, xs, rfl, upd_same, by rw [upd_ne hne, upd_same], o.u.no hx, o.u.no hdx, hne, fun p u hp => ?_, o.l, hb, papp a1 (hd I1), hR, fun d I' H' e1 e2 e3 e4 xa => k d I' H' (s1.trans ⟨e1, fun p u hp => ?_, fun p h1 h2 => ?_, e4⟩) xa⟩
  · rw [off p (fun e => by rw [e, o.u.no hx] at hp; cases hp) (fun e => by rw [e, o.u.no hdx] at hp; cases hp)]
    exact o.u p u hp
  · have a : p ≠ x := fun e => by rw [e, hx] at hp; cases hp
    have b : p ≠ dx := fun e => by rw [e, hdx] at hp; cases hp
    exact e2 p a b u (by rw [off p a b]; exact hp)
  · have a : p ≠ x := fun e => h1 (by rw [e]; exact hx)
    have b : p ≠ dx := fun e => h1 (by rw [e]; exact hdx)
    exact e3 p (by rw [off p a b]; exact h1) h2⟩
/-! ### in a def that raises -/
/-- what the def's wish wants -/
def Wants (K : PySem.W.Frag) (F : Fr) (X : XK) (C : Addr) (fs : Option (List (Str × D))) : Prop := ∀ d I' H', OkF F I' H' → XAt K I' H' fs d → X (.ref C) d H'
theorem Blk.now {t : TS} {P : Ps} (h : ∀ {I H : Hp} {σ : L2.St} {E : Ends}, Sta K F ρ I σ H → t E σ H) : Blk K F ρ t P := ⟨fun s _ => h s⟩
theorem Blk.raiseZ {X : XK} {C : Addr} {P : Ps} (w : Wants K F X C none) : Blk K F ρ (fun _ _ H => X (.ref C) none H) P := .now fun s => w none _ _ s.ok rfl
theorem Blk.retZ {te : XK → TE} {X : XK} {C : Addr} {fs : Option (List (Str × D))} {P : Ps} (h : GvZ K F ρ te C fs) (w : Wants K F X C fs) : Blk K F ρ (tRet (te X)) P := .now fun s => h.run s fun d I' H' st xa => w d I' H' (s.ok.step st) xa
theorem Blk.exprZ {te : XK → TE} {X : XK} {C : Addr} {fs : Option (List (Str × D))} {P : Ps} (h : GvZ K F ρ te C fs) (w : Wants K F X C fs) : Blk K F ρ (tDrop (te X)) P := .now fun s => h.run s fun d I' H' st xa => w d I' H' (s.ok.step st) xa
theorem Blk.asgZ {te : XK → TE} {g : TG} {X : XK} {C : Addr} {fs : Option (List (Str × D))} {P : Ps} (h : GvZ K F ρ te C fs) (w : Wants K F X C fs) : Blk K F ρ (tAsg (te X) g) P := .now fun s => h.run s fun d I' H' st xa => w d I' H' (s.ok.step st) xa
def noP : Ps := { nx := fun _ => False, rt := fun _ _ => False, bk := fun _ => False, ct := fun _ => False }
theorem enterX {N : List Str} {sb : Bool} {R : XR} {vs : List V} {H : Hp} {Q : VK} {X : XK} {t : TS} (hb : ∀ F ds C fs, R ds C fs → (sb = true → F.L = []) → Wants K F X C fs → Blk K F (startS N ds) t noP) (h : spX K sb R vs H Q X) : t { nx := fun _ H' => Q .non H', rt := Q } (L2.start N vs) H := by
  obtain ⟨L, I, ds, C, fs, u, l, hsb, a, hR, k⟩ := h
  refine (hb ⟨H, I, L⟩ ds C fs hR hsb fun d I' H' o xa => k d I' H' ⟨o.i, o.h, o.n, o.u⟩ xa).run (I := I) ⟨⟨Ext.refl' _, Ext.refl' _, fun _ _ z => z, u, l⟩, [], ?_, List.nodup_nil, fun q hq => absurd hq List.not_mem_nil⟩ ⟨fun n => n.elim, fun n => n.elim, fun n => n.elim, fun n => n.elim⟩
  unfold startS L2.start
  rw [← Paired.length a]
  exact slots_start a
/-- a def that raises, by data; okXb: from a body's reading -/
theorem lenX {sb : Bool} {R : XR} {ps : List Str} (hl : ∀ ds C fs, R ds C fs → ds.length = ps.length) : ∀ vs H Q E, spX K sb R vs H Q E → vs.length = ps.length := fun vs H Q X h => by
  obtain ⟨L, I, ds, C, fs, u, l, hsb, a, hR, _⟩ := h
  rw [Paired.length a]
  exact hl ds C fs hR
theorem okX {Pg : Program} {w : World} {mg : Str → Option Value} {base : Heap} {x qual : Str} {st : Stmt} {f : Addr} {fd : FuncData} {N ps : List Str} {k : Nat} {sb : Bool} {R : XR} (T : Fun K x qual st f fd) (S : FnScope N ps (defScope st)) (hl : ∀ ds C fs, R ds C fs → ds.length = ps.length)
    (hb : ∀ (cdv : Value) (A : Around) (outer : List Env) (s : Shared) (H : Hp) (X : XK), Room k (A.deeper (envOfC qual (defScope st) s.heap.objs.size f cdv)) →
      ∃ t, PSs (cxOf (L2N.CX Pg w) Pg w K mg base N qual (defScope st) f cdv A outer s H X) (defBody st) t ∧ ∀ F ds C fs, R ds C fs → (sb = true → F.L = []) → Wants K F X C fs → Blk K F (startS N ds) t noP) : FnOk Pg w K mg base (L2N.CX Pg w) (k + 1) f fd ps (spX K sb R) := by
  obtain ⟨oc, od, kV, doc, pm, an, cdv, ct, osl, rfl, lk, hcd⟩ := T.ex
  refine fn_of lk hcd S (lenX hl) fun A outer s H vs Q X hr h => ?_
  obtain ⟨t, h1, h2⟩ := hb cdv A outer s H X hr
  exact ⟨t, h1, enterX h2 h⟩
/-- what an __init__'s wish wants -/
def WantsI (K : PySem.W.Frag) (F : Fr) (X : XK) (C0 x dx C : Addr) (fs : Option (List (Str × D))) : Prop := ∀ d I' H' σ' ρ' gs, Sta K F ρ' I' σ' H' → ρ'[0]? = some (.own (resI K C0 x dx gs)) → XAt K I' H' fs d → X (.ref C) d H'
theorem Blk.raiseI {X : XK} {C0 x dx C : Addr} {gs : List (Str × D)} {P : Ps} (w : WantsI K F X C0 x dx C none) (h : ρ[0]? = some (.own (resI K C0 x dx gs))) : Blk K F ρ (fun _ _ H => X (.ref C) none H) P := .now fun s => w none _ _ _ _ gs s h rfl
theorem Blk.exprI {te : XK → TE} {X : XK} {C0 x dx C : Addr} {gs : List (Str × D)} {fs : Option (List (Str × D))} {P : Ps} (h : GvZ K F ρ te C fs) (w : WantsI K F X C0 x dx C fs) (h0 : ρ[0]? = some (.own (resI K C0 x dx gs))) : Blk K F ρ (tDrop (te X)) P := .now fun s => h.run s fun d I' H' st xa => w d I' H' _ _ gs (s.step st) h0 xa
theorem enterIX {N : List Str} {sb : Bool} {C0 : Addr} {R : XR} {vs : List V} {H : Hp} {Q : VK} {X : XK} {t : TS} (hb : ∀ F x dx ds C fs, R ds C fs → (sb = true → F.L = []) → WantsI K F X C0 x dx C fs → Blk K F (startI K C0 x dx N ds) t noP) (h : spIX K sb C0 R vs H Q X) : t { nx := fun _ H' => Q .non H', rt := Q } (L2.start N vs) H := by
  obtain ⟨L, I, x, dx, vs', ds, C, fs, rfl, hx, hdx, ix, idx, hne, u, l, hsb, a, hR, k⟩ := h
  have hoff : ∀ q o, (if q = x then none else if q = dx then none else H q) = some o → q ≠ x ∧ q ≠ dx ∧ H q = some o := fun q o h => by
    by_cases e : q = x
    · rw [if_pos e] at h; cases h
    · rw [if_neg e] at h
      by_cases e2 : q = dx
      · rw [if_pos e2] at h; cases h
      · rw [if_neg e2] at h; exact ⟨e, e2, h⟩
  refine (hb ⟨fun p => if p = x then none else if p = dx then none else H p, I, L⟩ x dx ds C fs hR hsb fun d I' H' σ' ρ' gs s0 n xa => ?_).run (I := I) ⟨⟨Ext.refl' _, fun q o h => (hoff q o h).2.2, fun _ _ z => z, u, l⟩, [x, dx] ++ [], ?_, ?_, fun q hq => ?_⟩ ⟨fun n => n.elim, fun n => n.elim, fun n => n.elim, fun n => n.elim⟩
  · obtain ⟨v, f, h1, ⟨ws, rfl, rfl, h2, h3, a'⟩, h4, nf, _⟩ := s0.put (H' := H') (i := 0) n
    refine k d I' H' s0.ok.i (fun p h1 h2 o h => s0.ok.h p o (by show (if p = x then none else if p = dx then none else H p) = some o; rw [if_neg h1, if_neg h2]; exact h)) (fun p h1 h2 => ?_) s0.ok.u xa
    by_cases e1 : p = x
    · rw [e1]; exact (h4 x List.mem_cons_self).1
    · by_cases e2 : p = dx
      · rw [e2]; exact (h4 dx (by simp)).1
      · exact s0.ok.n p (by show (if p = x then none else if p = dx then none else H p) ≠ none; rw [if_neg e1, if_neg e2]; exact h1) h2
  · unfold startI L2.start
    have hl := Paired.length a
    refine .own ⟨[], rfl, rfl, hx, hdx, .nil⟩ ?_
    rw [show N.length - (V.ref x :: vs').length = N.length - (ds.length + 1) by rw [List.length_cons, hl]]
    exact slots_start a
  · simp
    exact hne.symm
  · have hq : q = x ∨ q = dx := by simpa using hq
    rcases hq with rfl | rfl
    · exact ⟨ix, if_pos rfl, by rw [hx]; exact fun z => nomatch z⟩
    · refine ⟨idx, ?_, by rw [hdx]; exact fun z => nomatch z⟩
      show (if q = x then none else if q = q then none else H q) = none
      rw [if_neg hne, if_pos rfl]
theorem lenIX {sb : Bool} {C0 : Addr} {R : XR} {ps : List Str} (hl : ∀ ds C fs, R ds C fs → ds.length + 1 = ps.length) : ∀ vs H Q E, spIX K sb C0 R vs H Q E → vs.length = ps.length := fun vs H Q X h => by
  obtain ⟨L, I, x, dx, vs', ds, C, fs, rfl, hx, hdx, ix, idx, hne, u, l, hsb, a, hR, _⟩ := h
  rw [List.length_cons, Paired.length a]
  exact hl ds C fs hR
/-! ### try: .. except X as n: suite -/
/-- the ends within the suite, n in the slot i -/
def suiteP (i : Nat) (P : Ps) : Ps where
  nx := fun ρ' => P.nx (ρ'.set i .un)
  rt := P.rt
  bk := fun ρ' => P.bk (ρ'.set i .un)
  ct := fun ρ' => P.ct (ρ'.set i .un)
theorem suite_ends {I I' : Hp} {i : Nat} {P : Ps} {E : Ends} (e : EndsOk K F I P E) (x : Ext I I') : EndsOk K F I' (suiteP i P) { nx := fun σ' H' => E.nx (σ'.set i none) H', rt := E.rt, bk := fun σ' H' => E.bk (σ'.set i none) H', ct := fun σ' H' => E.ct (σ'.set i none) H' } :=
  ⟨fun q x2 s => e.nx q (ext_trans x x2) (s.drop none i), fun q x2 s a => e.rt q (ext_trans x x2) s a, fun q x2 s => e.bk q (ext_trans x x2) (s.drop none i), fun q x2 s => e.ct q (ext_trans x x2) (s.drop none i)⟩
theorem wAs_yes {I I' H H' : Hp} {σ : L2.St} {c : Value} {i : Nat} {ts : Addr → Value → Option Addr → TS} {Wout : WX} {E : Ends} {P : Ps} {C : Addr} {dd : Option Addr} (s : Sta K F ρ I σ H) (st : Stp F.L I H I' H') (e : EndsOk K F I P E) (hx : PySem.W.exmOne K (.ref C) c = some true)
    (hs : ∀ a, Blk K F (ρ.set i (.imm (.at_ a))) (ts a (.ref C) dd) (suiteP i P)) : wAs K c i ts Wout E (.ref C) dd σ H' :=
  ⟨true, hx, fun _ a _ => (hs a).run ((s.step st).set (.at_ a) i) (suite_ends e st.i), fun z => by cases z⟩
/-- the body is one name = e, and e raises -/
theorem Blk.tryAsg {te : XK → TE} {g : TG} {c : Value} {i : Nat} {ts : Addr → Value → Option Addr → TS} {Wout : WX} {P : Ps} {C : Addr} {fs : Option (List (Str × D))} (h : GvZ K F ρ te C fs) (hx : PySem.W.exmOne K (.ref C) c = some true)
    (hs : ∀ a dd, (fs = none → dd = none) → Blk K F (ρ.set i (.imm (.at_ a))) (ts a (.ref C) dd) (suiteP i P)) : Blk K F ρ (fun D σ H => tAsg (fun σ => te (WE (wAs K c i ts Wout D) σ) σ) g D σ H) P := ⟨fun s e => h.run s fun d I' H' st xa => wAs_yes s st e hx fun a => hs a d fun z => by rw [z] at xa; exact xa⟩
theorem Blk.tryExpr {te : XK → TE} {c : Value} {i : Nat} {ts : Addr → Value → Option Addr → TS} {Wout : WX} {P : Ps} {C : Addr} {fs : Option (List (Str × D))} (h : GvZ K F ρ te C fs) (hx : PySem.W.exmOne K (.ref C) c = some true)
    (hs : ∀ a dd, (fs = none → dd = none) → Blk K F (ρ.set i (.imm (.at_ a))) (ts a (.ref C) dd) (suiteP i P)) : Blk K F ρ (fun D σ H => tDrop (fun σ => te (WE (wAs K c i ts Wout D) σ) σ) D σ H) P := ⟨fun s e => h.run s fun d I' H' st xa => wAs_yes s st e hx fun a => hs a d fun z => by rw [z] at xa; exact xa⟩
/-- the body runs through -/
theorem Blk.tryAsgN {te : XK → TE} {j : Nat} {c : Value} {i : Nat} {ts : Addr → Value → Option Addr → TS} {Wout : WX} {P : Ps} (h : ∀ X, GvE K F ρ (te X) d) (q : P.nx (ρ.set j (.imm d))) : Blk K F ρ (fun D σ H => tAsg (fun σ => te (WE (wAs K c i ts Wout D) σ) σ) (gName j) D σ H) P := ⟨fun s e => (h _).run s fun v I1 H1 s1 a1 => e.nx q s1.i ((s.step s1).set a1 j)⟩
theorem Blk.tryExprN {te : XK → TE} {c : Value} {i : Nat} {ts : Addr → Value → Option Addr → TS} {Wout : WX} {P : Ps} (h : ∀ X, GvE K F ρ (te X) d) (q : P.nx ρ) : Blk K F ρ (fun D σ H => tDrop (fun σ => te (WE (wAs K c i ts Wout D) σ) σ) D σ H) P := ⟨fun s e => (h _).run s fun v I1 H1 s1 a1 => e.nx q s1.i (s.step s1)⟩
end
/-! ### calls whose exception is taken by the slots -/
section
variable {X : Cx} {k : Nat} {f C : Addr} {fd : FuncData} {ps : List Str} {sp : Sp} {dvs : List V} {ds : List Value} {E : L2.St → XK} {x m : Str} {p pos apos : Pos} {e o : Expr} {es : List Expr} {ta : TE} {t : TA} {CX : CXT}
theorem pe_callQ (G : FnOk X.prog X.w X.K X.mg X.base CX k f fd ps sp) (hr : Room k X.A) (hg : Gl X x) (hm : X.mg x = some (.ref f)) (hk : PySem.W.keepIn X.K (.ref f) = true) (hb : Binds X.K fd ps ds) (hd : Vals dvs ds) (hx : ∀ σ, PassesAt CX X σ (E σ))
    (ha : PA X (e :: es) t) (hdb : (x == ("__debug__" : Str)) = false := by decide) (he : starEach (e :: es) X.env = (false, eval e X.env) :: starEach es X.env := by rfl) (hpl : (backTo pos (starEach es X.env)).any (·.1) = false := by rfl) :
    PE X (.Call (.Name x p) (e :: es) [] pos) (fun σ => tCall sp dvs (E σ) t σ) := ⟨fun pins s σ H Q I h =>
  wpAny_Call_Name_kw (ld_glob I hg hm (PySem.W.callWith_K (h₀ := X.base) I.ok.mod.kin hk (thn (ha.run pos pins s σ H _ I h) fun us s1 ⟨vs, H1, I1, r, q⟩ => ⟨I1.kIn, run_fnSD G hr hb hd (hx σ) I1 r q⟩) he hpl) hdb)⟩
theorem pe_methQ {pl : Sem Bool} (he : PE X o ta) (c : Cls X.K C) (hm : Meth X.K C m f) (G : FnOk X.prog X.w X.K X.mg X.base CX k f fd ps sp) (hr : Room k X.A) (hb : Binds X.K fd ps ds) (hd : Vals dvs ds) (hx : ∀ σ, PassesAt CX X σ (E σ)) (ha : PA X (e :: es) t)
    (hst : starEach (e :: es) X.env = (false, eval e X.env) :: starEach es X.env := by rfl) (hpl : (backTo pos (starEach es X.env)).any (·.1) = false := by rfl)
    (ht : eval (.Call (.Attribute o m apos) (e :: es) [] pos) X.env = (do
      let ov ← eval o X.env; standAt apos.atName
      let (f, first) ← holding [ov] (getMethod ov m pl); callWith pos f first (backTo pos (starEach (e :: es) X.env)) (backToKw pos (keywordEach [] X.env))) := by rfl) :
    PE X (.Call (.Attribute o m apos) (e :: es) [] pos) (fun σ => tMeth C m sp dvs (E σ) ta t σ) := ⟨fun pins s σ H Q I h => by
  refine PySem.W.methodCall_KW (pl := pl) (thn (he.run pins s σ H _ I h) fun u s1 ⟨x, H1, I1, rx, a, dx, fs, ex, ea, l, q⟩ => ?_) ht
  subst ex; obtain rfl : u = Value.ref a := rx
  exact getmeth_ok I1 ea c hm l (PySem.W.callWith_K (first := [.ref a]) (h₀ := X.base) I.ok.mod.kin hm.kp (thn (ha.run pos pins s1 σ H1 _ I1 q) fun us s2 ⟨vs, H2, I2, r, q2⟩ => ⟨I2.kIn, run_fnSD (us := .ref a :: us) (vs := .ref a :: vs) G hr hb hd (hx σ) I2 (.cons rfl r) q2⟩) hst hpl)⟩
theorem pe_makeQ (M : Mk X.K C f) (G : FnOk X.prog X.w X.K X.mg X.base CX k f fd ps sp) (hr : Room (k + 1) X.A) (hg : Gl X x) (hm : X.mg x = some (.ref C)) (hb : Binds X.K fd ps ds) (hd : Vals dvs ds) (hx : ∀ (σ : L2.St) (pins : List (Addr × Obj)) (H : Hp) (s : Shared) (e : Value) (s' : Shared), Inv X pins σ H s → CX X.stack H s (E σ) e s' → X.xe e s')
    (ha : PA X (e :: es) t) (hdb : (x == ("__debug__" : Str)) = false := by decide) (he : starEach (e :: es) X.env = (false, eval e X.env) :: starEach es X.env := by rfl) (hpl : (backTo pos (starEach es X.env)).any (·.1) = false := by rfl) :
    PE X (.Call (.Name x p) (e :: es) [] pos) (fun σ => tMake C sp dvs (E σ) t σ) := ⟨fun pins s σ H Q I h => by
  refine wpAny_Call_Name_kw (ld_glob I hg hm (PySem.W.callWith_K (h₀ := X.base) I.ok.mod.kin M.kp (thn (ha.run pos pins s σ H _ I h) fun us s1 ⟨vs, H1, I1, r, q⟩ => ⟨I1.kIn, ?_⟩) he hpl) hdb)
  show wpAny _ _ (call (.ref C) us) _ _ _
  have hq := q (s1.heap.objs.size + 1) s1.heap.objs.size (I1.hok.fresh (Nat.le_succ _)) (I1.hok.fresh (Nat.le_refl _)) (Nat.ne_of_lt (Nat.lt_succ_self _))
  have I2 := Inv.made (C := C) I1
  have r2 : Vals (V.ref (s1.heap.objs.size + 1) :: (vs ++ dvs)) (Value.ref (s1.heap.objs.size + 1) :: (us ++ ds)) := .cons rfl (r.append hd)
  have hl : (Value.ref (s1.heap.objs.size + 1) :: us ++ ds).length = ps.length := (r2.length.symm.trans (G.len _ _ _ _ hq))
  refine wpAny_call (make_map (f := f) I1.kIn M.makes M.init (beq_iff_eq.mp M.fn) (codeAny_mono (G.run _ X.stack _ _ ⟨Value.ref (s1.heap.objs.size + 1) :: us, []⟩ (Value.ref (s1.heap.objs.size + 1) :: (us ++ ds)) _ _ (E σ) (hr.make C us []) (I2.env0.make C us []) (hb _ (Value.ref (s1.heap.objs.size + 1) :: us) I2.kIn hl) r2 hq) fun r s' hq' => ?_))
  cases r with
  | error e => exact hx σ pins _ _ e s' I2 hq'
  | ok fl =>
    cases fl with
    | ret u =>
      obtain ⟨v, H', I3, rv, ev, q3⟩ := I2.after hq'
      subst ev
      exact ⟨rv, ⟨V.ref (s1.heap.objs.size + 1), H', I3, rfl, q3⟩⟩
    | next => exact False.elim hq'
    | brk => exact False.elim hq'
    | cont => exact False.elim hq'⟩
end
/-- the exception's def, called in the suite itself -/
theorem pe_callHs {X : Cx} {k : Nat} {f : Addr} {fd : FuncData} {ps : List Str} {sp : SpH} {x : Str} {q pos : Pos} {e : Expr} {es : List Expr} {t : TA} {xa : Addr} {oe : Obj} {c : Value} {d : Option Addr} (G : FnHp X.prog X.w X.K X.mg X.base k f fd ps sp) (hr : L2H.RoomH k X.A) (hot : L2H.Hot1 X.A (xa, oe)) (hp : (xa, oe) ∈ X.pn) (hz : Zc c d oe) (hg : Gl X x) (hm : X.mg x = some (.ref f))
    (hk : PySem.W.keepIn X.K (.ref f) = true) (hb : Binds X.K fd ps []) (ha : PA X (e :: es) t) (hdb : (x == ("__debug__" : Str)) = false := by decide) (he : starEach (e :: es) X.env = (false, eval e X.env) :: starEach es X.env := by rfl) (hpl : (backTo pos (starEach es X.env)).any (·.1) = false := by rfl) :
    PE X (.Call (.Name x q) (e :: es) [] pos) (tCall (sp xa c d) [] E0 t) := pe_callHp (p := (xa, oe)) G hr hot hp hz hg hm hk hb ha hdb he hpl
/-! ### small things -/
theorem takesN {X : Cx} : L2N.Takes X (fun _ _ _ _ => False) := fun _ _ ⟨_, _, _, _, _, _, _, _, _, _, _, _, _, _, _, _, z⟩ => z.elim
theorem hotS {X : Cx} {a : Addr} {oe : Obj} {cls : Value} {d : Option Addr} {pn : List (Addr × Obj)} (hz : L2N.Zn cls d oe) (hf : ∃ vs, oe.data = .fields vs) : L2H.Hot1 (X.suite a ((a, oe) :: pn)).A (a, oe) := by
  obtain ⟨vs, e⟩ := hf
  exact ⟨rfl, vs, e, hz.2.2 vs e⟩
theorem roomS {A : Around} {k : Nat} {v : Option Value} (hr : Room k A) : L2H.RoomH k (A.mark v) := ⟨hr.dp, hr.un⟩
theorem kit_bi {K : PySem.W.Frag} {D : Addr} {n : String} {b : Bool} (h : PySem.W.kitMeta n = true) (h2 : PySem.W.subIn K (.ref D) (.type n) = some b) : PySem.W.kitOne K (.ref D) (.type n) = some b := by
  unfold PySem.W.kitOne
  rw [if_neg (by simp)]
  show (if PySem.W.kitMeta n = true then PySem.W.subIn K (.ref D) (.type n) else none) = some b
  rw [if_pos h]
  exact h2
section
variable {K : PySem.W.Frag} {F : Fr}
theorem rc_isE {D a C : Addr} {b : Bool} (h : PySem.W.kitOne K (.ref D) (.ref C) = some b) : RlC K F (rIsE K D a) [.at_ a, .at_ C] (.bl b) := ⟨fun {I H xs Q} o at_ k => by
  cases at_ with
  | cons a1 r =>
    cases r with
    | cons a2 r =>
      cases r
      obtain rfl := a1.inv_at
      obtain rfl := a2.inv_at
      exact ⟨.ref C, .ref C, b, rfl, fun u r => r, h, k _ _ _ (.refl o.u) (.bl b)⟩⟩
theorem rc_isEb {D a : Addr} {n : String} {b : Bool} (h : PySem.W.kitOne K (.ref D) (.type n) = some b) : RlC K F (rIsE K D a) [.at_ a, .ty n] (.bl b) := ⟨fun {I H xs Q} o at_ k => by
  cases at_ with
  | cons a1 r =>
    cases r with
    | cons a2 r =>
      cases r
      obtain rfl := a1.inv_at
      obtain rfl := a2.inv_ty
      exact ⟨.ty n, .type n, b, rfl, fun u r => r, h, k _ _ _ (.refl o.u) (.bl b)⟩⟩
theorem rc_gcd {t l : Int} : RlC K F rGcd [.int t, .int l] (.int (gcdI t l)) := ⟨fun {I H xs Q} o at_ k => by
  cases at_ with
  | cons a1 r =>
    cases r with
    | cons a2 r =>
      cases r
      exact ⟨t, l, by rw [a1.inv_int, a2.inv_int], k _ _ _ (.refl o.u) (.int _)⟩⟩
/-- isinstance(x, C), x an instance of C -/
theorem rc_isIns {C : Addr} {fs : List (Str × D)} (ty : ∀ (H : Hp) (p dx : Addr) (ws : List (Str × V)), H p = some (.ins C dx ws) → TyX K H (.ref p) (.ref C)) : RlC K F (rIsi K) [.ins C fs, .at_ C] (.bl true) := ⟨fun {I H xs Q} o at_ k => by
  cases at_ with
  | cons a1 r =>
    cases r with
    | cons a2 r =>
      cases r
      obtain ⟨p, dx, ws, rfl, h1, h2, _⟩ := a1.inv_ins
      obtain rfl := a2.inv_at
      exact ⟨.ref p, .ref C, .ref C, .ref C, true, rfl, .own C, ty H p dx ws (o.u.tup h1 fun z => z), kit_self, k _ _ _ (.refl o.u) (.bl true)⟩⟩
end
end Own
namespace Own
theorem _root_.L2H.RoomH.units {k : Nat} {A : PySem.Around} (r : L2H.RoomH k A) : A.units + 64 < PySem.cLine := by have := r.un; omega
end Own

set_option Elab.async false
set_option maxRecDepth 100000
set_option maxHeartbeats 4000000
set_option linter.all false
/-! Own exceptions whose __init__ says super().__init__(..) and then self.f = p, over any built-in base. -/
namespace Own
open PySem PySem.Spec PyProof.Rows L2
/-- what the text says of such a class -/
structure OxC (K : PySem.W.Frag) (B newId initId : String) (bmB : List Value) (C : Addr) : Prop where
  base : ExcBaseFacts B newId initId bmB
  sto : StoreFacts B bmB "object.__setattr__" "object"
  kxs : PySem.W.KxsFacts B initId
  ini : PySem.W.excInitIn K C bmB newId = true
  over : PySem.W.excOver K C bmB = true
  dct : PySem.W.hasDictIn K C = true
  sa : PySem.W.findIn K (.ref C) "__setattr__" = some (some (.builtin "object.__setattr__"))
  exC : PySem.W.subIn K (.ref C) (.type "BaseException") = some true
  sub : PySem.W.subIn K (.ref C) (.type B) = some true
  tyC : PySem.W.typeIn K (.ref C) = some (.type "type")
  kC : PySem.W.keepIn K (.ref C) = true

section
open Builtin Builtin.ObjectAttr
variable {prog : Program} {w : World} {A : Around} {R : Result → Shared → Prop} {hp : Heap} {g : Array GenState} {d : PySem.Drawn} {t : Nat} {os : OsState}
theorem ox_cd {K : PySem.W.Frag} {C : Addr} (h : PySem.W.hasDictIn K C = true) : ∃ cd, PySem.W.clsIn K C = some cd ∧ cd.hasDict = true := by
  unfold PySem.W.hasDictIn at h
  cases q : PySem.W.clsIn K C with
  | none => rw [q] at h; cases h
  | some cd => rw [q] at h; exact ⟨cd, rfl, h⟩
/-- self.f = v on an exception that has no dict yet -/
theorem ox_osa {K : PySem.W.Frag} {B newId initId : String} {bmB : List Value} {C x t1 : Addr} {name : Str} {tk : Tok} {v : Value} (T : OxC K B newId initId bmB C) (X : K.In hp)
    (hx : hp.get? x = some ({ cls := .ref C, data := .fields #[.ref t1, .none, .none, .none, .bool false, .none] } : Obj)) (ha : PySem.W.findIn K (.ref C) name = some none)
    (hq : ∀ h' tk' dx, (∀ b o, b ≠ x → hp.get? b = some o → h'.get? b = some o) → hp.objs.size ≤ dx → dx ≠ x → h'.get? x = some ({ cls := .ref C, dict := some dx, data := .fields #[.ref t1, .none, .none, .none, .bool false, .none] } : Obj) →
      h'.Ns1 dx (fun y => if y = name then some v else none) → R (.ok (.ret .none)) ⟨h', g, d, tk', os⟩) :
    codeAny (model prog w) A (.call (.builtin "object.__setattr__") ⟨[.ref x, .str name tk, v], []⟩) R ⟨hp, g, d, t, os⟩ := by
  have I : PySem.W.InstAt hp x ({ cls := .ref C, data := .fields #[.ref t1, .none, .none, .none, .bool false, .none] } : Obj) C none := ⟨hx, rfl, rfl, trivial⟩
  have hxs : x ≠ hp.objs.size := Nat.ne_of_lt (Heap.lt_size hx)
  obtain ⟨cd, hcd, hh⟩ := ox_cd T.dct
  have hcls : PySem.W.Looks (model prog w) hp (classData C) cd := PySem.W.looks_clsIn X hcd
  refine PySem.W.osa_openX (r := none) T.sto X I T.over (by unfold PySem.W.takerIn; rw [ha]; rfl) fun b => ?_
  obtain ⟨nm, bs, mro, ns, qn, hd, sn, sb, ab, col, del⟩ := cd
  dsimp only at hh
  subst hh
  dsimp only
  unfold storeInOwnDict ownDictForStores
  repeat (first | with_reducible refine PySem.HandSPX.store_in_new ?_ ?_ | with_reducible refine wpAny_loadPart_at hx ?_ | with_reducible refine hcls.at ?_ | wp_step)
  · exact ⟨_, #[], _, (Heap.get?_update_ne _ _ _ _ hxs.symm).trans (Heap.get?_push_at rfl rfl), rfl, fun e he => absurd he (by simp), fun _ => rfl⟩
  · intro h' tk' hn' hs
    have hx₁ : (hp.push { cls := .type "dict", data := .dict #[] }).get? x = some ({ cls := .ref C, data := .fields #[.ref t1, .none, .none, .none, .bool false, .none] } : Obj) := Heap.get?_push_of_some _ hx
    refine hq h' tk' hp.objs.size (fun b o hb ho => ?_) (Nat.le_refl _) hxs.symm ?_ hn'
    · exact (hs.2 b (Nat.ne_of_lt (Heap.lt_size ho))).trans ((Heap.get?_update_ne _ _ _ _ hb).trans (Heap.get?_push_of_some _ ho))
    · exact (hs.2 x hxs).trans (Heap.get?_update_self _ hx₁ rfl)
end
section
variable {X : Cx} {pins : List (Addr × Obj)} {σ : L2.St} {H : Hp} {s : Shared} {a C dx : Addr} {f : Str} {y : V} {u : Value} {E : Value → Shared → Prop} {A : Around} {B newId initId : String} {bmB : List Value}
/-- self.f = y, the exception's dict is laid -/
theorem ox_set {Q : Unit → Shared → Prop} (T : OxC X.K B newId initId bmB C) (I : Inv X pins σ H s) (e : H a = some (exo a C none)) (hno : PySem.W.findIn X.K (.ref C) f = some none) (ry : RelV y u)
    (h : ∀ dx s', H dx = none → dx ≠ a → Inv X pins σ (upd (upd H dx (exd dx [(f, y)])) a (exo a C (some dx))) s' → Q () s') : wpAny (model X.prog X.w) A (setAttr (.ref a) f u) Q E s := by
  obtain ⟨t1, ho⟩ := exo_at I.hok e
  obtain ⟨hp, g, d, t, os⟩ := s
  refine PySem.W.set_plain I.kIn (ox := { cls := .ref C, dict := none, data := .fields #[.ref t1, .none, .none, .none, .bool false, .none] }) (od := none) ⟨ho, rfl, rfl, trivial⟩ T.sa ?_
  refine ox_osa T I.kIn ho hno fun h' tk' dx k dn dne hx hn => ?_
  have hnd : H dx = none := I.hok.fresh dn
  have nd : ∀ {b : Addr} {o : Obj}, hp.get? b = some o → b ≠ dx := fun {b o} q => Nat.ne_of_lt (Nat.lt_of_lt_of_le (Heap.lt_size q) dn)
  have na : ∀ {b : Addr}, H b = none → b ≠ a := fun {b} n z => by rw [z, e] at n; cases n
  have off : ∀ {b : Addr} {o : HO}, H b = some o → b ≠ a → (upd (upd H dx (exd dx [(f, y)])) a (exo a C (some dx))) b = some o := fun {b o} q n => by
    rw [upd_ne n, upd_ne (ne_of_none q hnd)]; exact q
  have Un1 : Un X.fs [] H (upd (upd H dx (exd dx [(f, y)])) a (exo a C (some dx))) hp h' := {
    keep := fun b o q n _ _ => k b o (na n) q
    slot := fun b o q n _ _ => ⟨o.slots, k b o (na n) q⟩
    free := fun b o q n _ => by rw [upd_ne (na n), upd_ne (nd q)]; exact n
    there := fun b o q _ => by
      by_cases hb : b = a
      · exact ⟨_, by rw [hb]; exact hx⟩
      · exact ⟨o, k b o hb q⟩
    tups := fun b xs q => off q (at_ne e q exo_tup)
    frzs := fun b o v q => off q (at_ne e q exo_frz)
    tbls := fun b ps q => ⟨#[], by rw [off q (at_ne e q exo_tbl)]; simp⟩ }
  refine h dx _ hnd dne (I.un (t' := tk') Un1 fun b o q => ?_)
  by_cases hb : b = a
  · subst hb
    rw [upd_same] at q
    cases q
    exact exo_ok hx
  · rw [upd_ne hb] at q
    by_cases hd : b = dx
    · subst hd
      rw [upd_same] at q
      cases q
      exact exd_ok hn (relO_put (fs := []) ry fun g => True.intro)
    · rw [upd_ne hd] at q
      exact (I.hok b o q).stay (fun c v hc z => k c v (hc.elim (fun z => by rw [z]; exact hb) fun z => at_ne e z exo_own) z) (fun c hc => off hc (at_ne e hc exo_own)) (fun c xs hc => off hc (at_ne e hc exo_tup))
/-- the base's __init__, bound to the exception, is called: nothing of it is told -/
theorem ox_init {u : Addr} {us : List Value} {Q : Value → Shared → Prop} (T : OxC X.K B newId initId bmB C) (I : Inv X pins σ H s) (e : H a = some (exo a C none)) (hu : s.heap.get? u = some (PySem.W.kxs_mw initId a)) (hl : us.length ≤ sizeLine)
    (h : ∀ s', Inv X pins σ H s' → Q .none s') : wpAny (model X.prog X.w) A (call (.ref u) us) Q E s := by
  obtain ⟨nm, N', qn, bs, bm, hdct, sn, sub, ab, col, dd, k0, k1, k2, k3, k5, hC, hT⟩ := PySem.W.excInit_of I.kIn T.ini
  obtain ⟨t1, ho⟩ := exo_at I.hok e
  obtain ⟨hp, g, d, t, os⟩ := s
  have fin : ∀ h', (∀ b o, b ≠ a → hp.get? b = some o → h'.get? b = some o) → h'.get? a = some (PySem.W.excObj C hp.objs.size none .none) → Q .none ⟨h', g, d, t, os⟩ := fun h' k hx => by
    have J := I.write (t' := t) (x := a) (e := a) (o := exo a C none) (by rw [e]; exact True.intro) (.inl rfl) k ⟨_, hx⟩ (exo_ok hx)
    have eu : upd H a (exo a C none) = H := by
      funext b
      by_cases hb : b = a
      · rw [hb, upd_same, e]
      · rw [upd_ne hb]
    rw [eu] at J
    exact h _ J
  refine wpAny_call (codeAny_of_tree ?_)
  show wpAny _ A.in1 (callAny (.ref u) ⟨us, []⟩) _ _ _
  simp only [callAny]
  refine wpAny_bind (wpAny_load hu ?_)
  simp only [PySem.W.kxs_mw, show (Value.type "method-wrapper" == Value.type "method" || Value.type "method-wrapper" == Value.type "builtin_function_or_method" || Value.type "method-wrapper" == Value.type "method-wrapper") = true by decide, if_true]
  refine PySem.W.KFB.if_so (by decide) ?_
  refine wpAny_bind (PySem.W.check_bound_init T.base.toExcCallFacts hC ho rfl ?_)
  refine wpAny_bind (wpAny_pure (wpAny_pure ?_))
  refine ⟨plainId_quiet T.base.init.plain _, codeAny_builtin T.base.initEntry ?_⟩
  exact PySem.W.exc_init_tree (cls := .ref C) (t0 := t1) (dv := none) (c2 := .none) (c3 := .none) (b4 := .bool false) ho hl fun h' k hx _ => fin h' k hx
end
/-! ### the def __init__ itself -/
/-- its context -/
def cxS (CX : CXT) (Pg : Program) (w : World) (K : PySem.W.Frag) (mg : Str → Option Value) (base : Heap) (N : List Str) (qual : Str) (scope : Scope) (f : Addr) (cd : Value) (cc : Addr) (A : Around) (outer : List Env) (s : Shared) (H : Hp) (E : XK) : Cx where
  prog := Pg
  w := w
  K := K
  mg := mg
  base := base
  A := A.deeper (PySem.W.ksEnv qual scope s.heap.objs.size f cd cc)
  N := N
  s_0 := s
  H_0 := H
  env := PySem.W.ksEnv qual scope s.heap.objs.size f cd cc
  outer := outer
  stack := PySem.W.ksEnv qual scope s.heap.objs.size f cd cc :: outer
  ex := []
  fn := fun _ => false
  calm := true
  pn := []
  xe := fun e s' => wpAny (model Pg w) (A.deeper (PySem.W.ksEnv qual scope s.heap.objs.size f cd cc)) (leaving (PySem.W.ksEnv qual scope s.heap.objs.size f cd cc) e) (fun _ s'' => CX outer H s E e s'') (fun e' s'' => CX outer H s E e' s'') s'
/-- its names -/
structure SupScope (p : Str) (sc : Scope) : Prop where
  kind : sc.kind = .function
  co : sc.isCoroutine = false
  gen : sc.isGenerator = false
  self : sc.names.lookup ("self" : Str) = some .local
  par : sc.names.lookup p = some .local
  ne : p ≠ "self"
  cls : sc.names.lookup ("__class__" : Str) = some .free
  sup : sc.names.lookup ("super" : Str) = some .globalImplicit
  cell : ∀ x ∈ sc.names, x.2 ≠ .cell
  free : ∀ x ∈ sc.names, x.2 = .free → x.1 = "__class__"
section
variable {CX : CXT} {Pg : Program} {w : World} {K : PySem.W.Frag} {mg : Str → Option Value} {base : Heap} {p qual : Str} {scope : Scope} {f cc cda : Addr} {A : Around} {outer : List Env} {s : Shared} {H : Hp} {E : XK}
theorem invS {h0 : Heap} {t' : Nat} {x y : V} {ux uy : Value} {oc : Obj} {v : Option Value} (S : SupScope p scope) (hd : A.handled = none) (e0 : Env0 Pg w K mg base A outer s H) (hc : K.lookup cc = some oc) (hcv : oc.data = .cell v)
    (rx : RelV x ux) (ry : RelV y uy) (hns : h0.Ns s.heap.objs.size fun z => (([("self", ux), (p, uy)] : List (Str × Value))).reverse.lookup z) (hk : ∀ b o, s.heap.get? b = some o → h0.get? b = some o) :
    Inv (cxS CX Pg w K mg base ["self", p] qual scope f (.ref cda) cc A outer s H E) [] [some x, some y] H { s with heap := h0, toks := t' } := by
  have noA : ∀ b : Addr, b ∉ (cxS CX Pg w K mg base ["self", p] qual scope f (.ref cda) cc A outer s H E).ex := fun b z => absurd (show b ∈ ([] : List Addr) from z) (by simp)
  have cell1 : ∀ {z : Str} {c : Addr}, (cxS CX Pg w K mg base ["self", p] qual scope f (.ref cda) cc A outer s H E).env.cells.lookup z = some c → z = "__class__" ∧ c = cc := fun {z c} h => by
    have h' : ([("__class__", cc)] : List (Str × Addr)).lookup z = some c := h
    have m := PySem.mem_of_lookup h'
    simp at m
    exact m
  have hb := e0.mod.kin _ _ hc
  obtain ⟨hcs, hcH⟩ := e0.bs _ _ hb
  refine ⟨⟨e0.mod, S.kind, rfl, rfl, Nat.le_refl _, fun y z c h1 h2 => by rw [(cell1 h1).1, (cell1 h2).1], fun y hy => ?_, fun y c h => (by cases h), fun _ => hd, Around.frames_deeper e0.frames, .inr ⟨rfl, rfl⟩, fun b z => absurd z (noA b), e0.bs, e0.bsz, fun b _ _ => noA b, fun b z => absurd z (noA b), e0.funs, e0.frf⟩,
    rfl, e0.bare, Un.kept hk, ⟨_, hns, fun i n v h1 h2 h3 => ?_⟩, fun y c h => ⟨v, by rw [(cell1 h).2]; exact ⟨oc, hk _ _ hcs, hcv⟩⟩, e0.hok.fresh (Nat.le_refl _), fun y c h => by rw [(cell1 h).2]; exact hcH, fun p hp => absurd (show p ∈ ([] : List (Addr × Obj)) from hp) (by simp), e0.hok.kept hk, rfl⟩
  · have hy : scope.names.lookup y = some .cell ∨ scope.names.lookup y = some .free := hy
    rcases hy with hy | hy
    · exact absurd rfl (S.cell _ (PySem.mem_of_lookup hy))
    · have : y = "__class__" := S.free _ (PySem.mem_of_lookup hy) rfl
      subst this
      exact ⟨cc, rfl⟩
  · have hp : (("self" : Str) == p) = false := by simpa using fun z : ("self" : Str) = p => S.ne z.symm
    match i, h1, h2 with
    | 0, h1, h2 =>
      cases h1
      cases h2
      refine ⟨ux, rx, .inl ⟨S.self, ?_⟩⟩
      show ([(p, uy), ("self", ux)] : List (Str × Value)).lookup ("self" : Str) = some ux
      simp [List.lookup, hp]
    | 1, h1, h2 =>
      cases h1
      cases h2
      refine ⟨uy, ry, .inl ⟨S.par, ?_⟩⟩
      show ([(p, uy), ("self", ux)] : List (Str × Value)).lookup p = some uy
      simp [List.lookup]
    | i + 2, h1, h2 => cases h1
end
/-- what __init__ keeps: its parameter is laid as the field f -/
def spS (C : Addr) (f : Str) (ok : V → Prop) : Sp := fun vs H Q _ => ∃ (a : Addr) (y : V), vs = [.ref a, y] ∧ H a = some (exo a C none) ∧ ok y ∧ ∀ dx, H dx = none → dx ≠ a → Q .non (upd (upd H dx (exd dx [(f, y)])) a (exo a C (some dx)))
section
variable {CX : CXT} {Pg : Program} {w : World} {K : PySem.W.Frag} {mg : Str → Option Value} {base : Heap}
/-- the argument of super().__init__: whatever the parameter is (within ok), it comes to an end -/
def ArgS (CX : CXT) (Pg : Program) (w : World) (K : PySem.W.Frag) (mg : Str → Option Value) (base : Heap) (p qual : Str) (scope : Scope) (f : Addr) (cd : Value) (cc : Addr) (arg : Expr) (ok : V → Prop) : Prop :=
  ∀ (A : Around) (outer : List Env) (s : Shared) (H0 : Hp) (E : XK), ∃ te, PE (cxS CX Pg w K mg base ["self", p] qual scope f cd cc A outer s H0 E) arg te ∧ ∀ (a : Addr) (y : V) (H : Hp) (Q : VK), ok y → (∀ v, Q v H) → te [some (.ref a), some y] H Q
theorem fn_sup {k : Nat} {f C cc cda : Addr} {name qual p fld : Str} {params : Arguments} {scope : Scope} {dV kV doc pm ct oc ccl cl : Value} {an od cdd cld : Option Addr} {osl ccs csl : Array (Option Value)} {vs : Array Value} {file : Str} {tf : Tok} {ar : Arg} {arg : Expr} {p0 p1 p2 p3 p4 p5 p6 p7 p8 : Pos}
    {B newId initId : String} {bmB : List Value} {ok : V → Prop} (T : OxC K B newId initId bmB C) (S : SupScope p scope)
    (lk : K.lookup f = some ⟨oc, od, .func (PySem.W.ksFn name qual params [.Expr (.Call (.Attribute (.Call (.Name "super" p0) [] [] p1) "__init__" p2) [arg] [] p3) p4, .Assign [.Attribute (.Name "self" p5) fld p6] (.Name p p7) p8] scope dV kV doc pm an (.ref cda) ct cc), osl⟩)
    (hcd : PySem.W.codeIn K (.ref cda) qual = true) (hcode : K.lookup cda = some ⟨ccl, cdd, .fields vs, ccs⟩) (hvs : vs[2]? = some (.str file tf)) (hcell : K.lookup cc = some ⟨cl, cld, .cell (some (.ref C)), csl⟩)
    (hsup : PySem.W.ks_superIn K C C "__init__" = some (some (.builtin initId))) (hopq : PySem.W.nsIn K cStatics "thirdparty.any" = some none) (hgl : mg "super" = none) (hno : PySem.W.findIn K (.ref C) fld = some none) (hmro : PySem.W.mroIn K C (.ref C) = some true)
    (hself : (params.posonlyargs ++ params.args).head? = some ar) (har : ar.arg = "self") (hfile : ((Pg.main.file : Str) == file) = true) (htop : (Pg.main.scope.names.lookup ("super" : Str)).isSome = false)
    (harg : ArgS CX Pg w K mg base p qual scope f (.ref cda) cc arg ok) {pl : Addr → Sem Bool}
    (he : ∀ L, eval (.Call (.Attribute (.Call (.Name "super" p0) [] [] p1) "__init__" p2) [arg] [] p3) (PySem.W.ksEnv qual scope L f (.ref cda) cc) = (do
      let ov ← attributeBase (.Call (.Name "super" p0) [] [] p1) "__init__" (PySem.W.ksEnv qual scope L f (.ref cda) cc) (eval (.Call (.Name "super" p0) [] [] p1) (PySem.W.ksEnv qual scope L f (.ref cda) cc))
      standAt p2.atName
      let (g, first) ← holding [ov] (getMethod ov "__init__" (pl L))
      callWith p3 g first (backTo p3 (starEach [arg] (PySem.W.ksEnv qual scope L f (.ref cda) cc))) []))
    (hw1 : ∀ L, swapsWith (.Call (.Attribute (.Call (.Name "super" p0) [] [] p1) "__init__" p2) [arg] [] p3) none p4.line (PySem.W.ksEnv qual scope L f (.ref cda) cc) = pure false)
    (hw2 : ∀ L, swapsWith (.Name p p7) (some (.Attribute (.Name "self" p5) fld p6)) p8.line (PySem.W.ksEnv qual scope L f (.ref cda) cc) = pure false)
    (hst : ∀ L, starEach [arg] (PySem.W.ksEnv qual scope L f (.ref cda) cc) = (false, eval arg (PySem.W.ksEnv qual scope L f (.ref cda) cc)) :: starEach [] (PySem.W.ksEnv qual scope L f (.ref cda) cc))
    (hpd : (p == ("__debug__" : Str)) = false := by decide) (hpc : (p == ("__classdict__" : Str)) = false := by decide) :
    FnOk Pg w K mg base CX (k + 1) f (PySem.W.ksFn name qual params [.Expr (.Call (.Attribute (.Call (.Name "super" p0) [] [] p1) "__init__" p2) [arg] [] p3) p4, .Assign [.Attribute (.Name "self" p5) fld p6] (.Name p p7) p8] scope dV kV doc pm an (.ref cda) ct cc) ["self", p] (spS C fld ok) := by
  refine ⟨fun vs H Q E h => by obtain ⟨a, y, rfl, _⟩ := h; rfl, fun A outer s H args us vs' Q E hr e0 hb r hsp => ?_⟩
  obtain ⟨a, y, rfl, ha, hy, hq⟩ := hsp
  cases r with
  | @cons _ ux _ _ rx r =>
  cases r with
  | @cons _ uy _ _ ry r =>
  cases r
  obtain rfl : ux = Value.ref a := rx
  have KX : K.In s.heap := e0.mod.kin.keeps fun b o e => (e0.bs b o e).1
  have lim : s.heap.NoLimit := e0.mod.nolimit.keeps fun b o e => (e0.bs b o e).1
  refine ks_codeAny_call_defAt (binds := ([(("self" : Str), Value.ref a), (p, uy)] : List (Str × Value))) hr.depth (KX _ _ lk) rfl lim (PySem.W.codeRec_of KX hcd) rfl hb S.cell (fun z hz => ?_) (fun h0 hns hk => ?_) S.co S.gen S.kind
  · have hz : z = (("self" : Str), Value.ref a) ∨ z = (p, uy) := by simpa using hz
    rcases hz with rfl | rfl
    · exact S.self
    · exact S.par
  have I0 : Inv (cxS CX Pg w K mg base ["self", p] qual scope f (.ref cda) cc A outer s H E) [] [some (.ref a), some y] H { s with heap := h0, toks := s.toks + 2 } := invS S hr.hd e0 hcell rfl rfl ry hns hk
  obtain ⟨te, hte, hq2⟩ := harg A outer s H E
  obtain ⟨sh, sg, sd, st, so'⟩ := s
  obtain ⟨cdC, hcC, _⟩ := ox_cd T.dct
  obtain ⟨oD, hD1, hD2⟩ : ∃ oD, h0.get? C = some oD ∧ oD.data = .cls cdC := by
    unfold PySem.W.clsIn at hcC
    split at hcC
    · rename_i c d cd' sl ho
      cases hcC
      exact ⟨_, I0.kIn _ _ ho, rfl⟩
    · cases hcC
  obtain ⟨t1, hoa⟩ := exo_at I0.hok ha
  obtain ⟨mb, hb1, hb2⟩ := I0.mod.blt
  refine ks_wpAt_execs_cons (ks_wpAt_Expr_any (ks_wpAt_MethodCall ?_ (he _)) I0.quiet (hw1 _))
  refine ks_wpAt_super_base (f := f) (cc := cda) (env := (cxS CX Pg w K mg base ["self", p] qual scope f (.ref cda) cc A outer ⟨sh, sg, sd, st, so'⟩ H E).env) S.sup S.cls rfl rfl (I0.kIn _ _ lk) rfl hself rfl (I0.kIn _ _ hcode) rfl hvs hfile htop ?_
  refine PySem.W.ks_loadName_global S.kind S.sup (Calls.loadGlobal_builtin (I0.mod.glob.keeps I0.bk) hgl (hb1.keeps I0.bk) ((hb2 _ (by decide)).trans PyProof.Rows.Boot.«super») ⟨rfl, ?_⟩)
  refine wpAny_loadName_free S.kind S.cls rfl ⟨_, I0.kIn _ _ hcell, rfl⟩ ?_
  rw [har]
  have hps : (("self" : Str) == p) = false := by simpa using fun z : ("self" : Str) = p => S.ne z.symm
  refine wpAny_loadName_local (v := .ref a) S.kind S.self hns (by show ([(p, uy), ("self", Value.ref a)] : List (Str × Value)).lookup ("self" : Str) = _; simp [List.lookup, hps]) ?_
  refine ks_wpAny_isType_cls hD1 hD2 ⟨rfl, ?_⟩
  refine ks_wpAny_call_super hD1 hD2 hoa rfl (fun c e => by cases e) (PySem.W.looks_mroIn I0.kIn hmro) (fun h1 hso k1 => ?_)
  have I1 := I0.kept (t' := st + 2) k1
  have hClk : PySem.W.Looks (model Pg w) h1 (mroOf (.ref C)) cdC.mro := fun A Q E s k q => wpAny_bind ((PySem.W.looks_clsIn I1.kIn hcC) A _ E s k (wpAny_pure q))
  have hsup' : PySem.W.alongIn K "__init__" ((cdC.mro.dropWhile (· != .ref C)).drop 1) = some (some (.builtin initId)) := by
    unfold PySem.W.ks_superIn at hsup
    rw [hcC] at hsup
    exact hsup
  have IA : PySem.W.InstAt h1 a ({ cls := .ref C, dict := none, data := .fields #[.ref t1, .none, .none, .none, .bool false, .none] } : Obj) C none := ⟨k1 _ _ hoa, rfl, rfl, trivial⟩
  refine PySem.W.kxs_getMethod T.kxs hso (PySem.W.looks_opaque I1.kIn hopq) hClk rfl I1.kIn hsup' (IA.type.andThen (PySem.W.looks_subIn I1.kIn T.sub)) (PySem.W.ks_ne I1.kIn IA hcC) (by decide) ?_
  have k2 : ∀ b o, h1.get? b = some o → (h1.push (PySem.W.kxs_mw initId a)).get? b = some o := fun b o e => Heap.get?_push_of_some _ e
  have I2 := I1.kept (t' := st + 2 + 1) k2
  have nu : H h1.objs.size = none := I1.hok.fresh (Nat.le_refl _)
  have I3 := I2.pins_of (pins' := [(h1.objs.size, PySem.W.kxs_mw initId a)]) fun z hz => by
    obtain rfl : z = (h1.objs.size, PySem.W.kxs_mw initId a) := by simpa using hz
    exact ⟨Heap.get?_push_at rfl rfl, nu, Nat.ne_of_gt I1.lt, I1.nofs (Nat.le_refl _), fun v z => by cases z⟩
  have key := thn ((pa_cons hte pa_nil (hst _)).run p3 _ _ _ H (fun vs H1 => H1 = H ∧ vs.length = 1) I3 (hq2 a y H _ hy fun v => ⟨rfl, rfl⟩)) (Q' := fun us s3 => PySem.W.KxsAt initId h1.objs.size a s3.heap ∧ wpAny (model Pg w) (A.deeper (PySem.W.ksEnv qual scope sh.objs.size f (.ref cda) cc)) (call (.ref h1.objs.size) ([] ++ us)) (fun v s4 => Inv (cxS CX Pg w K mg base ["self", p] qual scope f (.ref cda) cc A outer ⟨sh, sg, sd, st, so'⟩ H E) [] [some (.ref a), some y] H s4) (cxS CX Pg w K mg base ["self", p] qual scope f (.ref cda) cc A outer ⟨sh, sg, sd, st, so'⟩ H E).xe s3) fun us s3 hh => by
    obtain ⟨vs3, H3, I4, r3, rfl, hl3⟩ := hh
    have hu3 := (I4.pin _ (List.mem_append_right _ List.mem_cons_self)).1
    exact ⟨hu3, ox_init T I4 ha hu3 (by rw [List.nil_append, ← r3.length, hl3, sizeLine_eq]; omega) fun s4 I5 => I5.pins_of fun z hz => by cases hz⟩
  have key2 : wpAny (model Pg w) (A.deeper (PySem.W.ksEnv qual scope sh.objs.size f (.ref cda) cc)) (callWith p3 (.ref h1.objs.size) [] (backTo p3 (starEach [arg] (PySem.W.ksEnv qual scope sh.objs.size f (.ref cda) cc))) []) (fun v s4 => Inv (cxS CX Pg w K mg base ["self", p] qual scope f (.ref cda) cc A outer ⟨sh, sg, sd, st, so'⟩ H E) [] [some (.ref a), some y] H s4) (cxS CX Pg w K mg base ["self", p] qual scope f (.ref cda) cc A outer ⟨sh, sg, sd, st, so'⟩ H E).xe ⟨h1.push (PySem.W.kxs_mw initId a), sg, sd, st + 2 + 1, so'⟩ := by
    change wpAny (model Pg w) (A.deeper (PySem.W.ksEnv qual scope sh.objs.size f (.ref cda) cc)) (spliced (backTo p3 (starEach [arg] (PySem.W.ksEnv qual scope sh.objs.size f (.ref cda) cc)))) _ _ _ at key
    rw [hst] at key ⊢
    exact PySem.W.kxs_callWith (i := initId) (x := a) (by rfl) (Calls.evalArgs_plain key)
  refine wpAny_mono key2 (fun v s4 I6 => ?_) fun e s' z => z
  refine ks_wpAt_execs_cons (wpAt_of_wpAny (plainObj_wpAny_Assign_Attribute ?_ (hw2 _)))
  refine thn ((pe_var (X := cxS CX Pg w K mg base ["self", p] qual scope f (.ref cda) cc A outer ⟨sh, sg, sd, st, so'⟩ H E) (i := 1) rfl (Or.inl S.par) hpd hpc).run [] s4 _ H (fun v H1 => v = y ∧ H1 = H) I6 ⟨y, rfl, rfl, rfl⟩) fun v5 s5 ⟨y5, H5, I7, r5, e5, e6⟩ => ?_
  subst e5
  subst e6
  refine thn ((pe_var (X := cxS CX Pg w K mg base ["self", p] qual scope f (.ref cda) cc A outer ⟨sh, sg, sd, st, so'⟩ H5 E) (i := 0) rfl (Or.inl S.self)).run [] s5 _ H5 (fun v H1 => v = .ref a ∧ H1 = H5) I7 ⟨.ref a, rfl, rfl, rfl⟩) fun v6 s6 ⟨y6, H6, I8, r6, e7, e8⟩ => ?_
  subst e7
  subst e8
  obtain rfl : v6 = Value.ref a := r6
  refine ox_set T I8 ha hno r5 fun dx s' hdx hne J => ?_
  refine wpAt_of_wpAny (wpAny_pure ?_)
  exact ⟨.non, _, J.os, J.bare, J.base, J.hok, rfl, hq dx hdx hne⟩
end
/-! ### C(e), C with such an __init__ -/
section
variable {X : Cx} {x fld : Str} {C fI : Addr} {k : Nat} {fd : FuncData} {ps : List Str} {B newId initId : String} {bmB : List Value} {ok : V → Prop} {e : Expr} {es : List Expr} {ta : TA} {p pos : Pos}
theorem pmk_ox (T : OxC X.K B newId initId bmB C) (iC : PySem.W.findIn X.K (.ref C) "__init__" = some (some (.ref fI))) (tI : PySem.W.typeIn X.K (.ref fI) = some (.type "function")) (F1 : FnOk X.prog X.w X.K X.mg X.base (L2N.CX X.prog X.w) k fI fd ps (spS C fld ok)) (hr : Room (k + 1) X.A) (hb : Binds X.K fd ps [])
    (tk : L2N.Takes X (fun _ _ _ _ => False)) (hg : Gl X x) (hm : X.mg x = some (.ref C)) (ha : PA X (e :: es) ta)
    (hdb : (x == ("__debug__" : Str)) = false := by decide) (he : starEach (e :: es) X.env = (false, eval e X.env) :: starEach es X.env := by rfl) (hpl : (backTo pos (starEach es X.env)).any (·.1) = false := by rfl) :
    L2N.PMk X (.Call (.Name x p) (e :: es) [] pos) (fun σ H Q => ta σ H fun vs H1 => ∃ y, vs = [y] ∧ ok y ∧ ∀ d, H1 d = none → Q (.ref C) (some d) (upd H1 d (.xd [(fld, y)]))) := by
  intro pins s σ H Q I h
  refine wpAny_Call_Name_kw (ld_glob I hg hm ?_ hdb)
  refine PySem.W.callWith_K (h₀ := X.base) I.ok.mod.kin T.kC (thn (ha.run pos pins s σ H _ I h) fun us s1 ⟨vs, H1, I1, r1, y, hy, hok, q1⟩ => ⟨I1.kIn, ?_⟩) he hpl
  subst hy
  obtain ⟨nm, N', qn, bs, bm, hdct, sn, sub, ab, col, dd, k0, k1, k2, k3, k5, hC, hT⟩ := PySem.W.excInit_of I1.kIn T.ini
  show wpAny _ _ (call (.ref C) us) _ _ _
  obtain ⟨hp, g, dr, tkn, os⟩ := s1
  have hsz : hp.objs.size ≤ hp.objs.size + 1 := Nat.le_succ _
  have hn : H1 (hp.objs.size + 1) = none := I1.hok.fresh hsz
  have kk : ∀ b o, hp.get? b = some o → ((hp.push (PySem.W.kdv_tup us)).push (PySem.HandSPX.excO C hp.objs.size)).get? b = some o := fun b o e => Heap.get?_push_of_some _ (Heap.get?_push_of_some _ e)
  have hget : ((hp.push (PySem.W.kdv_tup us)).push (PySem.HandSPX.excO C hp.objs.size)).get? (hp.objs.size + 1) = some (PySem.HandSPX.excO C hp.objs.size) := by heap_get
  have I2 : Inv X pins σ (upd H1 (hp.objs.size + 1) (exo (hp.objs.size + 1) C none)) ⟨(hp.push (PySem.W.kdv_tup us)).push (PySem.HandSPX.excO C hp.objs.size), g, dr, tkn, os⟩ :=
    I1.laid (t' := tkn) (a := hp.objs.size + 1) (o := exo (hp.objs.size + 1) C none) (h' := (hp.push (PySem.W.kdv_tup us)).push (PySem.HandSPX.excO C hp.objs.size)) kk hsz (exo_ok hget)
  have r2 : Vals (V.ref (hp.objs.size + 1) :: [y]) (Value.ref (hp.objs.size + 1) :: us) := .cons rfl r1
  have hsp : spS C fld ok (V.ref (hp.objs.size + 1) :: [y]) (upd H1 (hp.objs.size + 1) (exo (hp.objs.size + 1) C none)) (fun v H2 => v = .non ∧ ∃ d, H1 d = none ∧ d ≠ hp.objs.size + 1 ∧ H2 = upd (upd (upd H1 (hp.objs.size + 1) (exo (hp.objs.size + 1) C none)) d (exd d [(fld, y)])) (hp.objs.size + 1) (exo (hp.objs.size + 1) C (some d))) (fun _ _ _ => False) :=
    ⟨_, y, rfl, upd_same, hok, fun d hd hne => ⟨rfl, d, by rw [upd_ne hne] at hd; exact hd, hne, rfl⟩⟩
  have hl : (Value.ref (hp.objs.size + 1) :: us).length = ps.length := r2.length.symm.trans (F1.len _ _ _ _ hsp)
  have hus : us.length ≤ sizeLine := by
    rw [← r1.length, sizeLine_eq]
    show 1 ≤ _
    omega
  have b2 := hb _ (Value.ref (hp.objs.size + 1) :: us) I2.kIn (by rw [List.append_nil]; exact hl)
  rw [List.append_nil] at b2
  refine wpAny_call (PySem.HandSPX.call_own T.base hT hC (PySem.W.looks_findIn I1.kIn iC) (fun self => PySem.W.bind_fn I1.kIn self tI) hus
    (codeAny_mono (F1.run _ X.stack _ _ ⟨Value.ref (hp.objs.size + 1) :: us, []⟩ (Value.ref (hp.objs.size + 1) :: us) _ _ (fun _ _ _ => False) (hr.make C us []) (I2.env0.make C us []) b2 r2 hsp) fun r s' hq' => ?_))
  cases r with
  | error er => exact L2N.passes_call tk (fun _ _ _ _ h => h) pins σ _ _ er s' I2 hq'
  | ok fl =>
    cases fl with
    | ret u =>
      obtain ⟨v, H2, os2, bare2, un2, hok2, rv, ev, d, hd1, hne, e2⟩ := hq'
      subst ev
      subst e2
      obtain ⟨h2, g2, d2, t2, os'⟩ := s'
      obtain ⟨t0, G, J, kG, ge, hoe, na⟩ := mk_end0 (d2 := d2) (t2 := t2) I1 hsz kk un2 hok2 os2 bare2 upd_same (by rw [upd_ne hne, upd_same]) hd1
      have eH : upd (del (upd (upd (upd H1 (hp.objs.size + 1) (exo (hp.objs.size + 1) C none)) d (exd d [(fld, y)])) (hp.objs.size + 1) (exo (hp.objs.size + 1) C (some d))) (hp.objs.size + 1)) d (.xd [(fld, y)]) = upd H1 d (.xd [(fld, y)]) := by
        funext b
        by_cases hbd : b = d
        · rw [hbd, upd_same, upd_same]
        · rw [upd_ne hbd, upd_ne hbd]
          by_cases hba : b = hp.objs.size + 1
          · rw [hba, del_same, hn]
          · rw [del_ne hba, upd_ne hba, upd_ne hbd, upd_ne hba]
      rw [eH] at J na
      exact ⟨rv, ⟨hp.objs.size + 1, _, _, ⟨G, g2, d2, t2, os'⟩, _, .ref C, some d, rfl, J, kG, ge, hoe, ⟨rfl, rfl, fun vs hv => by cases hv; rfl⟩, rfl, rfl, na, rfl, bare2, raises_own T.exC T.tyC, q1 d hd1⟩⟩
    | next => exact False.elim hq'
    | brk => exact False.elim hq'
    | cont => exact False.elim hq'
end
end Own

set_option Elab.async false
set_option maxRecDepth 100000
set_option maxHeartbeats 4000000
set_option linter.all false
/-! Exceptions with a field, by data: raised, taken by a clause, asked, read, handed on. -/
namespace Own
open PySem PySem.Spec PyProof.Rows L2
/-! ### the argument of super().__init__ -/
def okTxt (v : V) : Prop := ∃ y : Str, v = .str y ∧ (reprText y).length ≤ 1000000
def okAny (_ : V) : Prop := True
section
variable {CX : CXT} {Pg : Program} {w : World} {K : PySem.W.Frag} {mg : Str → Option Value} {base : Heap} {p qual : Str} {scope : Scope} {f cc : Addr} {cd : Value}
theorem arg_str {m : Str} {j : Nat} {q : Pos} : ArgS CX Pg w K mg base p qual scope f cd cc (.Constant (.str m) j q) okAny := fun A outer s H E => ⟨_, pe_str, fun a y H Q _ h => h _⟩
theorem arg_fmt {m : Str} {j : Nat} {q q2 q3 q4 : Pos} (S : SupScope p scope) (hm : m.length ≤ 1000) (hpd : (p == ("__debug__" : Str)) = false := by decide) (hpc : (p == ("__classdict__" : Str)) = false := by decide) :
    ArgS CX Pg w K mg base p qual scope f cd cc (.JoinedStr [.Constant (.str m) j q, .FormattedValue (.Name p q2) 114 none q3] q4) okTxt := fun A outer s H E =>
  ⟨_, pe_joined (.cons pe_str (.cons (pe_fmtR (pe_var (X := cxS CX Pg w K mg base ["self", p] qual scope f cd cc A outer s H E) (i := 1) rfl (Or.inl S.par) hpd hpc)) .nil)), fun a y H Q ⟨z, hz, hl⟩ h => by
    have l0 : (Str.empty ++ m : Str).length = m.length := by rw [Str.length_append]; show 0 + _ = _; omega
    refine ⟨m, rfl, by rw [l0, sizeLine_eq]; omega, ⟨y, rfl, .inl ⟨z, hz, by rw [sizeLine_eq]; omega, reprText z, rfl, ?_, h _⟩⟩⟩
    rw [Str.length_append, l0, sizeLine_eq]
    omega⟩
end
/-! ### raised -/
section
variable {K : PySem.W.Frag} {F : Fr} {ρ : List Slot} {tA : TA} {te : TE}
theorem ok_xd {I H : Hp} {d : Addr} {o : HO} (h : OkF F I H) (hd : H d = none) : OkF F I (L2.upd H d o) := by
  have e : Ext H (L2.upd H d o) := fun p u hp => by rw [upd_ne (fun z => by rw [z, hd] at hp; cases hp)]; exact hp
  refine ⟨h.i, fun p u hp => e p u (h.h p u hp), h.n, fun p u hp => ?_, h.l⟩
  have hpd : p ≠ d := fun z => by
    subst z
    by_cases hl : p ∈ F.L
    · obtain ⟨_, ob, h2⟩ := (h.u p u hp).2 hl
      rw [hd] at h2; cases h2
    · have h2 := (h.u p u hp).1 hl
      rw [hd] at h2; cases h2
  rw [upd_ne hpd]
  exact h.u p u hp
theorem Blk.raiseS {X : XK} {C : Addr} {fld : Str} {ok : V → Prop} {g : D} {P : Ps} (h : GvA K F ρ tA [g]) (hk : ∀ I v, At K I v g → ok v) (w : Wants K F X C (some [(fld, g)])) :
    Blk K F ρ (fun _ σ H => tA σ H fun vs H1 => ∃ y, vs = [y] ∧ ok y ∧ ∀ d, H1 d = none → X (.ref C) (some d) (L2.upd H1 d (.xd [(fld, y)]))) P := .now fun s => h.run s fun vs I1 H1 s1 a1 => by
  cases a1 with
  | cons a r =>
    cases r
    exact ⟨_, rfl, hk _ _ a, fun d hd => w (some d) I1 _ (ok_xd (s.ok.step s1) hd) ⟨d, _, rfl, upd_same, .cons ⟨rfl, a⟩ .nil⟩⟩
/-! ### taken by a clause -/
/-- no own object in the slots -/
def noOwn : List Slot → Bool
  | [] => true
  | .own _ :: _ => false
  | _ :: r => noOwn r
theorem slots_fp {I H : Hp} : ∀ {ρ : List Slot} {σ : L2.St} {fp : List Addr}, Slots K I H ρ σ fp → noOwn ρ = true → fp = []
  | _, _, _, .nil, _ => rfl
  | _, _, _, .un r, h => slots_fp r h
  | _, _, _, .imm _ r, h => slots_fp r h
  | _, _, _, .own _ _, h => by cases h
theorem XAt.mono {I H I' H' : Hp} {fs : Option (List (Str × D))} {d : Option Addr} (h : XAt K I H fs d) (e : Ext I I') (e2 : Ext H H') : XAt K I' H' fs d := by
  cases fs with
  | none => exact h
  | some fs =>
    obtain ⟨dd, ws, h1, h2, h3⟩ := h
    exact ⟨dd, ws, h1, e2 _ _ h2, h3.mono e⟩
/-- from here on all that stands is kept: the frame is laid anew -/
theorem Blk.rebase {I H : Hp} {σ : L2.St} {t : TS} {P : Ps} {E : Ends} (s : Sta K F ρ I σ H) (n : noOwn ρ = true) (e : EndsOk K F I P E) (hs : Blk K ⟨H, I, F.L⟩ ρ t P) : t E σ H := by
  obtain ⟨fp, a, nd, k⟩ := s.sl
  obtain rfl := slots_fp a n
  have up : ∀ {ρ' : List Slot} {I' H' : Hp} {σ' : L2.St}, Sta K ⟨H, I, F.L⟩ ρ' I' σ' H' → Sta K F ρ' I' σ' H' := fun {ρ' I' H' σ'} z => by
    obtain ⟨fp', a', nd', k'⟩ := z.sl
    refine ⟨⟨ext_trans s.ok.i z.ok.i, ext_trans s.ok.h z.ok.h, fun p h1 h2 => z.ok.n p (ext_ne s.ok.h h1) (s.ok.n p h1 h2), z.ok.u, z.ok.l⟩, fp', a', nd', fun q hq => ?_⟩
    obtain ⟨k1, k2, k3⟩ := k' q hq
    refine ⟨k1, ?_, k3⟩
    cases e : F.H0 q with
    | none => rfl
    | some o =>
      have := s.ok.h q o e
      have k2 : H q = none := k2
      rw [k2] at this
      cases this
  exact hs.run (I := I) ⟨⟨Ext.refl' _, Ext.refl' _, fun _ _ z => z, s.ok.u, s.ok.l⟩, [], a, List.nodup_nil, fun q hq => absurd hq List.not_mem_nil⟩
    ⟨fun q x z => e.nx q x (up z), fun q x z a => e.rt q x (up z) a, fun q x z => e.bk q x (up z), fun q x z => e.ct q x (up z)⟩
theorem noOwn_set {d : D} : ∀ {ρ : List Slot} {i : Nat}, noOwn ρ = true → noOwn (ρ.set i (.imm d)) = true
  | [], _, _ => rfl
  | .un :: r, 0, h => h
  | .imm _ :: r, 0, h => h
  | .own _ :: _, _, h => by cases h
  | .un :: r, i + 1, h => noOwn_set (ρ := r) (i := i) h
  | .imm _ :: r, i + 1, h => noOwn_set (ρ := r) (i := i) h
theorem wAs_yesX {I I' H H' : Hp} {σ : L2.St} {c : Value} {i : Nat} {ts : Addr → Value → Option Addr → TS} {Wout : WX} {E : Ends} {P : Ps} {C : Addr} {dd : Option Addr} {fs : Option (List (Str × D))} (s : Sta K F ρ I σ H) (st : Stp F.L I H I' H') (xa : XAt K I' H' fs dd) (n : noOwn ρ = true) (e : EndsOk K F I P E) (hx : PySem.W.exmOne K (.ref C) c = some true)
    (hs : ∀ F' a, F'.L = F.L → XAt K F'.I0 F'.H0 fs dd → Blk K F' (ρ.set i (.imm (.at_ a))) (ts a (.ref C) dd) (suiteP i P)) : wAs K c i ts Wout E (.ref C) dd σ H' :=
  ⟨true, hx, fun _ a _ => Blk.rebase ((s.step st).set (.at_ a) i) (noOwn_set (d := .at_ a) n) (suite_ends e st.i) (hs ⟨H', I', F.L⟩ a rfl xa), fun z => by cases z⟩
theorem Blk.tryAsgX {te : XK → TE} {g : TG} {c : Value} {i : Nat} {ts : Addr → Value → Option Addr → TS} {Wout : WX} {P : Ps} {C : Addr} {fs : Option (List (Str × D))} (h : GvZ K F ρ te C fs) (n : noOwn ρ = true) (hx : PySem.W.exmOne K (.ref C) c = some true)
    (hs : ∀ F' a dd, F'.L = F.L → XAt K F'.I0 F'.H0 fs dd → Blk K F' (ρ.set i (.imm (.at_ a))) (ts a (.ref C) dd) (suiteP i P)) : Blk K F ρ (fun D σ H => tAsg (fun σ => te (WE (wAs K c i ts Wout D) σ) σ) g D σ H) P := ⟨fun s e => h.run s fun d I' H' st xa => wAs_yesX s st xa n e hx fun F' a hl x => hs F' a d hl x⟩
theorem Blk.tryExprX {te : XK → TE} {c : Value} {i : Nat} {ts : Addr → Value → Option Addr → TS} {Wout : WX} {P : Ps} {C : Addr} {fs : Option (List (Str × D))} (h : GvZ K F ρ te C fs) (n : noOwn ρ = true) (hx : PySem.W.exmOne K (.ref C) c = some true)
    (hs : ∀ F' a dd, F'.L = F.L → XAt K F'.I0 F'.H0 fs dd → Blk K F' (ρ.set i (.imm (.at_ a))) (ts a (.ref C) dd) (suiteP i P)) : Blk K F ρ (fun D σ H => tDrop (fun σ => te (WE (wAs K c i ts Wout D) σ) σ) D σ H) P := ⟨fun s e => h.run s fun d I' H' st xa => wAs_yesX s st xa n e hx fun F' a hl x => hs F' a d hl x⟩
end
/-! ### isinstance of it; its field -/
section
variable {X : Cx} {a C D dd : Addr} {oe : Obj}
def rIsD (K : PySem.W.Frag) (D a dd : Addr) : List V → Hp → VK → Prop := fun xs H Q => (∃ fs, H dd = some (.xd fs)) ∧ rIsE K D a xs H Q
theorem call_isD (T : ExcC X.K D) (hp : (a, oe) ∈ X.pn) (hz : Zc (.ref D) (some dd) oe) (hf : ∃ vs, oe.data = .fields vs) : CallR X (.builtin "isinstance") (rIsD X.K D a dd) := by
  intro pins s σ H xs us Q I r ⟨⟨fs, hx⟩, c, cv, b, ex, hcv, e, q⟩
  subst ex
  cases r with
  | cons rx rr =>
    cases rr with
    | cons rt rr =>
      cases rr; cases rx; obtain rfl := hcv _ rt
      obtain ⟨g, _⟩ := I.pin (a, oe) (List.mem_append_left _ hp); obtain ⟨vs, hv⟩ := hf
      have hx : ObjOk X.prog X.w H s.heap dd (.xd fs) := I.hok dd _ hx
      obtain ⟨mA, ⟨od, _, _, ho, _⟩, _⟩ := hx
      have J : PySem.W.InstAt s.heap a oe D (some od) := ⟨g, hz.1, by unfold PySem.W.notCls; rw [hv] <;> rfl, by rw [hz.2]; exact ho⟩
      obtain ⟨cd, hcd, _⟩ := ox_cd T.hd
      exact PySem.W.kia_one (PySem.W.kitx_exc (by rw [hcd]; rfl) T.hg T.hk T.hs T.ha T.hn T.ht T.hm) I.kIn J e (fun z => nomatch z) fun tk => ⟨.bl b, H, I.kept (t' := tk) fun _ _ z => z, rfl, q⟩
theorem pe_xfP {cls : Value} {d : Option Addr} {e : Expr} {te : TE} {pos : Pos} {n : Str} (T : ExcC X.K C) (hno : PySem.W.findIn X.K (.ref C) n = some none) (hp : (a, oe) ∈ X.pn)
    (hz : Zc cls d oe) (hf : ∃ vs, oe.data = .fields vs) (he : PE X e te) (hb : attributeBase e n X.env (eval e X.env) = eval e X.env := by rfl) : PE X (.Attribute e n pos) (tXf a cls d C n te) := by
  refine ⟨fun pins s σ H Q I h => ?_⟩
  refine attr_of hb (thn (he.run pins s σ H _ I h) fun u s1 ⟨x, H1, I1, rx, ex, ec, dd, fs, v, ed, ea, l, q⟩ => ?_)
  subst ex
  obtain rfl : u = Value.ref a := rx
  subst ec
  subst ed
  obtain ⟨ha, _⟩ := I1.pin (a, oe) (List.mem_append_left _ hp)
  obtain ⟨vs, hd⟩ := hf
  have hx : ObjOk X.prog X.w H1 s1.heap dd (.xd fs) := I1.hok dd _ ea
  obtain ⟨mA, hns, hr⟩ := hx
  obtain ⟨od, ho, hl⟩ := lookIn_ns hns
  obtain ⟨u, hu, ru⟩ := RelO.some_of (v := v) (o := mA n) (by rw [← l]; exact hr n)
  have J : PySem.W.InstAt s1.heap a oe C (some od) := ⟨ha, hz.1, by unfold PySem.W.notCls; rw [hd] <;> rfl, by rw [hz.2]; exact ho⟩
  exact PySem.HandSPX.exc_get I1.kIn J T.hg T.hk T.hs (PySem.W.findObj_own T.hd hno rfl (by rw [hl, hu])) (handed_of ru) ⟨v, H1, I1.tok _, ru, q⟩
end
section
variable {K : PySem.W.Frag} {F : Fr} {ρ : List Slot} {tA : TA} {te : TE} {ds : List D} {g r : D}
theorem rc_isD {D0 a C dd : Addr} {fs : List (Str × D)} {b : Bool} (x : XAt K F.I0 F.H0 (some fs) (some dd)) (h : PySem.W.kitOne K (.ref D0) (.ref C) = some b) : RlC K F (rIsD K D0 a dd) [.at_ a, .at_ C] (.bl b) := ⟨fun {I H xs Q} o at_ k => by
  obtain ⟨_, ws, e, h2, _⟩ := x
  cases e
  exact ⟨⟨ws, o.h _ _ h2⟩, (rc_isE (F := F) h).run o at_ k⟩⟩
theorem rc_isDb {D0 a dd : Addr} {fs : List (Str × D)} {n : String} {b : Bool} (x : XAt K F.I0 F.H0 (some fs) (some dd)) (h : PySem.W.kitOne K (.ref D0) (.type n) = some b) : RlC K F (rIsD K D0 a dd) [.at_ a, .ty n] (.bl b) := ⟨fun {I H xs Q} o at_ k => by
  obtain ⟨_, ws, e, h2, _⟩ := x
  cases e
  exact ⟨⟨ws, o.h _ _ h2⟩, (rc_isEb (F := F) h).run o at_ k⟩⟩
theorem look_f {I : Hp} {f : Str} : ∀ {ws : List (Str × V)} {fs : List (Str × D)}, KAts K I ws fs → ∀ {d : D}, fs.lookup f = some d → ∃ v, ws.lookup f = some v ∧ At K I v d
  | _, _, .nil, _, h => by cases h
  | (x1, x2) :: xs, (y1, y2) :: ys, .cons r t, d, h => by
    obtain ⟨r1, r2⟩ := r
    dsimp only at r1 r2
    subst r1
    rw [List.lookup_cons] at h ⊢
    split at h
    · cases h
      exact ⟨x2, by simp_all, r2⟩
    · obtain ⟨v, hv, a⟩ := look_f t h
      exact ⟨v, by simp_all, a⟩
theorem GvE.xf {a C dd : Addr} {fs : List (Str × D)} {f : Str} (h : GvE K F ρ te (.at_ a)) (x : XAt K F.I0 F.H0 (some fs) (some dd)) (hl : fs.lookup f = some g) : GvE K F ρ (tXf a (.ref C) (some dd) C f te) g := ⟨fun s k => h.run s fun v I1 H1 s1 a1 => by
  obtain ⟨_, ws, e, h2, h3⟩ := x
  cases e
  have o := s.ok.step s1
  obtain ⟨u, hu, au⟩ := look_f (h3.mono o.i) hl
  exact ⟨a1.inv_at, rfl, dd, ws, u, rfl, o.h _ _ h2, hu, k u I1 H1 s1 au⟩⟩
/-! ### a def that is handed such an exception -/
def spHx (K : PySem.W.Frag) (R : Addr → Value → Option (List (Str × D)) → List D → D → Prop) : SpH := fun a c d vs H Q _ => ∃ L I ds r fs, Und L I H ∧ (∀ q ∈ L, I q ≠ none) ∧ Ats K I vs ds ∧ XAt K I H fs d ∧ R a c fs ds r ∧ ∀ v I' H', Stp L I H I' H' → At K I' v r → Q v H'
theorem GvE.callHx {R : Addr → Value → Option (List (Str × D)) → List D → D → Prop} {a : Addr} {c : Value} {d : Option Addr} {fs : Option (List (Str × D))} {X : XK} (h : GvA K F ρ tA ds) (x : XAt K F.I0 F.H0 fs d) (hR : R a c fs ds r) : GvE K F ρ (tCall (spHx K R a c d) [] X tA) r := ⟨fun s k => h.run s fun vs I1 H1 s1 a1 => by
  have o := s.ok.step s1
  exact ⟨F.L, I1, ds, r, fs, o.u, o.l, by rw [List.append_nil]; exact a1, x.mono o.i o.h, hR, fun v I' H' s2 a2 => k v I' H' (s1.trans s2) a2⟩⟩
theorem okHx {Pg : Program} {w : World} {mg : Str → Option Value} {base : Heap} {x qual : Str} {st : Stmt} {f : Addr} {fd : FuncData} {N ps : List Str} {k : Nat} {R : Addr → Value → Option (List (Str × D)) → List D → D → Prop} (T : Fun K x qual st f fd) (S : FnScope N ps (defScope st)) (hl : ∀ a c fs ds r, R a c fs ds r → ds.length = ps.length)
    (hb : ∀ (cdv : Value) (A : Around) (outer : List Env) (s : Shared) (H : Hp) (X : XK) (p : Addr × Obj) (c : Value) (d : Option Addr), L2H.Hot1 A p → Zc c d p.2 → L2H.RoomH k (A.deeper (envOfC qual (defScope st) s.heap.objs.size f cdv)) →
      ∀ fs0, (∃ ds r I, XAt K I H fs0 d ∧ R p.1 c fs0 ds r) → ∃ t, PSs (L2H.cxH CX0 Pg w K mg base N qual (defScope st) f cdv A outer s H X p).nox (defBody st) t ∧ ∀ F ds r, XAt K F.I0 F.H0 fs0 d → R p.1 c fs0 ds r → Blk K F (startS N ds) t (retP r)) : FnHp Pg w K mg base (k + 1) f fd ps (spHx K R) :=
  Fun.okHp T S (fun a c d vs H Q X h => by
    obtain ⟨L, I, ds, r, fs, u, l, at_, xa, hR, _⟩ := h
    rw [Paired.length at_]
    exact hl a c fs ds r hR) fun cdv A outer s H vs Q X p c d hot hz hr h => by
    obtain ⟨L, I, ds, r, fs, u, l, at_, xa, hR, k⟩ := h
    obtain ⟨t, h1, h2⟩ := hb cdv A outer s H X p c d hot hz hr fs ⟨ds, r, I, xa, hR⟩
    refine ⟨t, h1, (h2 ⟨H, I, L⟩ ds r xa hR).run (I := I) ⟨⟨Ext.refl' _, Ext.refl' _, fun _ _ z => z, u, l⟩, [], ?_, List.nodup_nil, fun q hq => absurd hq List.not_mem_nil⟩ ⟨fun n x s => ?_, fun n x o a => ?_, fun n _ _ => n.elim, fun n _ _ => n.elim⟩⟩
    · unfold startS L2.start
      rw [← Paired.length at_]
      exact slots_start at_
    · have n : r = .non := n
      subst n
      exact k _ _ _ ⟨s.ok.i, s.ok.h, s.ok.n, s.ok.u⟩ .non
    · have n : _ = r := n
      subst n
      exact k _ _ _ ⟨o.ok.i, o.ok.h, o.ok.n, o.ok.u⟩ a
end
/-! ### such a class of the text -/
/-- what super() asks of the program -/
class PO (P : Program) : Prop where
  file : ((P.main.file : Str) == ("/claim/cut.py" : Str)) = true
  top : (P.main.scope.names.lookup ("super" : Str)).isSome = false
structure SupD (K : PySem.W.Frag) (mg : Str → Option Value) (C : Addr) (initId : String) (st : Stmt) (qual fld : Str) (f : Addr) (fd : FuncData) : Prop where
  ex : ∃ (oc : Value) (od : Option Addr) (kV doc pm : Value) (an : Option Addr) (cda : Addr) (ct : Value) (cc : Addr) (osl : Array (Option Value)) (ccl : Value) (cdd : Option Addr) (vs : Array Value) (ccs : Array (Option Value)) (tf : Tok) (cl : Value) (cld : Option Addr) (csl : Array (Option Value)),
    fd = PySem.W.ksFn "__init__" qual (defArgs st) (defBody st) (defScope st) .none kV doc pm an (.ref cda) ct cc ∧ K.lookup f = some ⟨oc, od, .func fd, osl⟩ ∧ PySem.W.codeIn K (.ref cda) qual = true ∧
    K.lookup cda = some ⟨ccl, cdd, .fields vs, ccs⟩ ∧ vs[2]? = some (.str "/claim/cut.py" tf) ∧ K.lookup cc = some ⟨cl, cld, .cell (some (.ref C)), csl⟩
  sup : PySem.W.ks_superIn K C C "__init__" = some (some (.builtin initId))
  opq : PySem.W.nsIn K cStatics "thirdparty.any" = some none
  gl : mg "super" = none
  no : PySem.W.findIn K (.ref C) fld = some none
  mro : PySem.W.mroIn K C (.ref C) = some true
  ini : PySem.W.findIn K (.ref C) "__init__" = some (some (.ref f))
  fty : PySem.W.typeIn K (.ref f) = some (.type "function")
section
variable {Pg : Program} {w : World} {K : PySem.W.Frag} {mg : Str → Option Value} {base : Heap} {C f : Addr} {B newId initId : String} {bmB : List Value} {st : Stmt} {qual fld p : Str} {fd : FuncData}
theorem okSup [PO Pg] {k : Nat} {ok : V → Prop} {ar : Arg} {arg : Expr} {p0 p1 p2 p3 p4 p5 p6 p7 p8 : Pos} {pl : Addr → Addr → Addr → Addr → Sem Bool} (D : SupD K mg C initId st qual fld f fd) (T : OxC K B newId initId bmB C) (S : SupScope p (defScope st))
    (hbody : defBody st = [.Expr (.Call (.Attribute (.Call (.Name "super" p0) [] [] p1) "__init__" p2) [arg] [] p3) p4, .Assign [.Attribute (.Name "self" p5) fld p6] (.Name p p7) p8])
    (hself : ((defArgs st).posonlyargs ++ (defArgs st).args).head? = some ar) (har : ar.arg = "self") (harg : ∀ f cd cc, ArgS (L2N.CX Pg w) Pg w K mg base p qual (defScope st) f cd cc arg ok)
    (he : ∀ L f cda cc, eval (.Call (.Attribute (.Call (.Name "super" p0) [] [] p1) "__init__" p2) [arg] [] p3) (PySem.W.ksEnv qual (defScope st) L f (.ref cda) cc) = (do
      let ov ← attributeBase (.Call (.Name "super" p0) [] [] p1) "__init__" (PySem.W.ksEnv qual (defScope st) L f (.ref cda) cc) (eval (.Call (.Name "super" p0) [] [] p1) (PySem.W.ksEnv qual (defScope st) L f (.ref cda) cc))
      standAt p2.atName
      let (g, first) ← holding [ov] (getMethod ov "__init__" (pl L f cda cc))
      callWith p3 g first (backTo p3 (starEach [arg] (PySem.W.ksEnv qual (defScope st) L f (.ref cda) cc))) []))
    (hw1 : ∀ L f cda cc, swapsWith (.Call (.Attribute (.Call (.Name "super" p0) [] [] p1) "__init__" p2) [arg] [] p3) none p4.line (PySem.W.ksEnv qual (defScope st) L f (.ref cda) cc) = pure false)
    (hw2 : ∀ L f cda cc, swapsWith (.Name p p7) (some (.Attribute (.Name "self" p5) fld p6)) p8.line (PySem.W.ksEnv qual (defScope st) L f (.ref cda) cc) = pure false)
    (hst : ∀ L f cda cc, starEach [arg] (PySem.W.ksEnv qual (defScope st) L f (.ref cda) cc) = (false, eval arg (PySem.W.ksEnv qual (defScope st) L f (.ref cda) cc)) :: starEach [] (PySem.W.ksEnv qual (defScope st) L f (.ref cda) cc))
    (hpd : (p == ("__debug__" : Str)) = false := by decide) (hpc : (p == ("__classdict__" : Str)) = false := by decide) : FnOk Pg w K mg base (L2N.CX Pg w) (k + 1) f fd ["self", p] (spS C fld ok) := by
  obtain ⟨oc, od, kV, doc, pm, an, cda, ct, cc, osl, ccl, cdd, vs, ccs, tf, cl, cld, csl, rfl, lk, hcd, hcode, hvs, hcell⟩ := D.ex
  rw [hbody] at lk ⊢
  exact fn_sup (pl := fun L => pl L f cda cc) T S lk hcd hcode hvs hcell D.sup D.opq D.gl D.no D.mro hself har PO.file PO.top (harg f _ cc) (fun L => he L f cda cc) (fun L => hw1 L f cda cc) (fun L => hw2 L f cda cc) (fun L => hst L f cda cc) hpd hpc
theorem SupD.binds (D : SupD K mg C initId st qual fld f fd) {ps : List Str} (h : ∀ (kV doc pm : Value) (an : Option Addr) (cdv ct : Value) (cc : Addr) (us : List Value), us.length = ps.length → bindArgs (PySem.W.ksFn "__init__" qual (defArgs st) (defBody st) (defScope st) .none kV doc pm an cdv ct cc) ⟨us, []⟩ = pure (ps.zip us)) : Binds K fd ps [] := by
  obtain ⟨oc, od, kV, doc, pm, an, cda, ct, cc, osl, ccl, cdd, vs, ccs, tf, cl, cld, csl, rfl, lk, hcd, hcode, hvs, hcell⟩ := D.ex
  exact .all (h kV doc pm an _ ct cc)
end
end Own

set_option Elab.async false
set_option maxRecDepth 100000
set_option maxHeartbeats 4000000
set_option linter.all false
/-! try: .. except (A, B) as n: suite. -/
namespace Own
open PySem PySem.Spec PyProof.Rows L2 L2N
/-- what the clause wishes of an exception of the body -/
def wAs2 (K : PySem.W.Frag) (c1 c2 : Value) (i : Nat) (ts : Addr → Value → Option Addr → TS) (Wout : WX) (D : Ends) : WX := fun cls d σ H =>
  ∃ b, PySem.W.exmAny K cls [c1, c2] = some b ∧ (b = true → ∀ a, H a = none → ts a cls d { nx := fun σ' H' => D.nx (σ'.set i none) H', rt := D.rt, bk := fun σ' H' => D.bk (σ'.set i none) H', ct := fun σ' H' => D.ct (σ'.set i none) H' } (σ.set i (some (.ref a))) H) ∧
    (b = false → Wout cls d σ H)
theorem fly_keep {B h h' : Heap} {l : List Env} {a : Addr} {Z : Obj → Prop} (f : PySem.HandSPX.FlyingZ B l a Z h) (k : ∀ b o, h.get? b = some o → h'.get? b = some o) : PySem.HandSPX.FlyingZ B l a Z h' := by
  obtain ⟨k1, k2, k3, oe, vs, T, oT, ts, h1, h2, h3, h4, h5, h6, h7, h8, h9⟩ := f
  exact ⟨fun b o q => k b o (k1 b o q), k2, k3.of_keeps fun b o e _ => ⟨o, k b o e, rfl⟩, oe, vs, T, oT, ts, k _ _ h1, h2, h3, h4, h5, h6, k _ _ h7, h8, h9⟩
section
variable {X : Cx} {x1 x2 n : Str} {c1 c2 : Value} {i kk : Nat} {body suite : List Stmt} {b₀ : Stmt} {n1 n2 tpos pos pos' : Pos} {tb : WX → TS} {ts : Addr → Value → Option Addr → TS} {Wout : WX}
theorem nm_eval {X : Cx} {x : Str} {c : Value} {np : Pos} (hc : Names X x c) {pins : List (Addr × Obj)} {σ : L2.St} {H : Hp} {s : Shared} {a : Addr} {pn : List (Addr × Obj)} {Q : Value → Shared → Prop} {E : Value → Shared → Prop} (S : Inv (X.suite a pn) pins σ H s) (q : Q c s) : wpAny (model X.prog X.w) (X.A.mark (some (.ref a))) (eval (.Name x np) X.env) Q E s := by
  obtain ⟨hg, hdbg, hm | ⟨hm, hv, hnn⟩⟩ := hc
  · exact ld_glob (X := X.suite a pn) S hg hm q hdbg
  · exact ld_blt (X := X.suite a pn) S hg hm hv q hnn hdbg
theorem ps_try_as2 (hs : X.stack = X.env :: X.outer) (hf : X.env.frame = some X.env.locals) (hN : X.N.Nodup) (hi : X.N[i]? = some n) (hln : X.env.kindOf n = some .local) (hc1 : Names X x1 c1) (hc2 : Names X x2 c2) (tk : L2N.Takes X Wout)
    (hb : ∀ (W : WX) (pn : List (Addr × Obj)) (xe : Value → Shared → Prop), L2N.Takes (X.tr pn xe) W → PassesOwn (model X.prog X.w) X.A X.env xe → PSs (X.tr pn xe) body (tb W))
    (hsu : ∀ (a : Addr) (oe : Obj) (cls : Value) (d : Option Addr) (pn : List (Addr × Obj)), L2N.Zn cls d oe → (∃ vs, oe.data = .fields vs) → PSs (X.suite a ((a, oe) :: pn)) (b₀ :: suite) (ts a cls d)) :
    PS X (.Try body [.ExceptHandler (some (.Tuple [.Name x1 n1, .Name x2 n2] kk tpos)) (some n) (b₀ :: suite) pos'] [] [] pos) (fun D σ H => tb (wAs2 X.K c1 c2 i ts Wout D) D σ H) := by
  refine ⟨fun pins s σ H D I h => ?_⟩
  have ok := I.ok
  have hfr : X.A.frames = some (X.env :: X.outer) := by rw [ok.frames, hs]
  have hloc : Loc X.env.scope n := .inl hln
  refine wpAny_Try_except ?_
  refine wpAny_mono ((hb (wAs2 X.K c1 c2 i ts Wout D) (X.pn ++ pins) (fun e s₁ => wpAny (model X.prog X.w) X.A (noteFrame e X.env) (fun _ s₂ => wpAny (model X.prog X.w) X.A (setFlight e none) (fun _ s₃ =>
    wpAny (model X.prog X.w) X.A (handleBy e X.env [.ExceptHandler (some (.Tuple [.Name x1 n1, .Name x2 n2] kk tpos)) (some n) (b₀ :: suite) pos']) (SP X pins D) X.xe s₃) X.xe s₂) X.xe s₁) (fun u s' xx => ?_) PassesOwn.looking).run [] s σ H D (I.toTry _) h) (fun f s1 hsp => ?_) (fun e s1 he => he)
  · obtain ⟨a, B, sI, pins', σ', H', cls, d, rfl, J', nb, up, sky, na, os, ag, b, hb1, hyes, hno⟩ := xx
    have J : Inv X pins σ' H' sI := J'.ofTry ok
    rw [hs] at sky
    show wpAny (model X.prog X.w) X.A (noteFrame (.ref a) X.env) _ _ _
    refine Sky.land Zn.steady hfr hf sky fun h3 fl3 up3 => ?_
    have J3 : Inv X pins σ' H' { s' with heap := h3 } := J.landed nb fl3.1 (up.trans up3) os ag
    obtain ⟨oe3, vs3, he3, hz3, hd3⟩ := fl3.there
    have nfr : a ∉ frs (X.env :: X.outer) := fun hm => by
      obtain ⟨_, o', e', hnf⟩ := fl3.2.2.1.mem hm
      rw [he3] at e'; cases e'
      exact hnf _ hd3
    have nL : a ≠ X.env.locals := fun z => nfr (List.mem_filterMap.mpr ⟨X.env, List.mem_cons_self, by rw [hf, z]⟩)
    have nF : a ∉ X.fs := fun hm => by
      obtain ⟨e, he, q⟩ := List.mem_filterMap.mp hm
      exact nfr (List.mem_filterMap.mpr ⟨e, List.mem_cons_of_mem _ he, q⟩)
    have S3 := J3.suite he3 hd3 na nL nF
    refine wpAny_handleBy_cons (codeAny_handlers_test ?_) (by intro q; cases q)
    refine wpAny_Tuple (wpAny_items_cons (nm_eval hc1 S3 (wpAny_items_cons (nm_eval hc2 S3 (wpAny_items_nil ⟨by size_fits, ?_⟩)))))
    have kp : ∀ q o, h3.get? q = some o → (h3.push { cls := .type "tuple", data := .seq [c1, c2].toArray }).get? q = some o := fun _ _ z => Heap.get?_push_of_some _ z
    have fl4 := fly_keep fl3 kp
    have J4 : Inv X pins σ' H' { s' with heap := h3.push { cls := .type "tuple", data := .seq [c1, c2].toArray } } := J.landed nb fl4.1 ((up.trans up3).trans (.of_keeps kp)) os ag
    have LT : PySem.W.Looks (model X.prog X.w) (h3.push { cls := .type "tuple", data := .seq [c1, c2].toArray }) (typeOf (.ref a)) cls := fun A Q E s k q => wpAny_typeOf_ref (k _ _ (kp _ _ he3)) (by rw [hz3.1]; exact q)
    have LM := PySem.W.exm_tup2 (M := model X.prog X.w) J4.kIn LT (Heap.get?_push_size h3 rfl) hb1
    refine LM.here ?_
    have up4 := (up.trans up3).trans (PySem.Heap.UpToSlots.of_keeps kp)
    cases b with
    | true =>
      refine codeAny_handlers_suite_as ?_
      refine PySem.HandSPX.lands_againZ fl4 fun h5 fl5 up5 => ?_
      have J5 : Inv X pins σ' H' { s' with heap := h5 } := J.landed nb fl5.1 (up4.trans up5) os ag
      obtain ⟨oe5, vs5, he5, hz5, hd5⟩ := fl5.there
      have S5 := J5.suite he5 hd5 na nL nF
      refine store_ok (X := X.suite a ((a, oe5) :: (X.pn ++ pins))) (v := .ref a) S5 hN hi hloc rfl (fun s6 S6 => ?_) (.inr hln)
      refine wpAny_mono ((hsu a oe5 cls d (X.pn ++ pins) hz5 ⟨_, hd5⟩).run [] s6 _ H' _ S6 (hyes rfl a na)) (fun f s7 hsp => ?_) (fun _ _ z => False.elim z)
      have end_ : ∀ {σ7 : L2.St} {H7 : Hp} {Q : Shared → Prop}, Inv (X.suite a ((a, oe5) :: (X.pn ++ pins))) [] σ7 H7 s7 → (∀ s8, Inv X pins (σ7.set i none) H7 s8 → Q s8) →
          wpAny (model X.prog X.w) X.A (do bindName X.env n .none; unbindBehindTheSuite X.env n pos') (fun _ s8 => Q s8) X.xe s7 := fun {σ7 H7 Q} S7 hq => gone_ok (S7.unsuite ok) hN hi hln hq
      cases f with
      | next => obtain ⟨_, _, S7, q7⟩ := hsp; exact end_ S7 fun s8 J8 => ⟨_, _, J8, q7⟩
      | brk => obtain ⟨_, _, S7, q7⟩ := hsp; exact end_ S7 fun s8 J8 => ⟨_, _, J8, q7⟩
      | cont => obtain ⟨_, _, S7, q7⟩ := hsp; exact end_ S7 fun s8 J8 => ⟨_, _, J8, q7⟩
      | ret u => obtain ⟨_, _, _, S7, r7, q7⟩ := hsp; exact end_ S7 fun s8 J8 => ⟨_, _, _, J8, r7, q7⟩
    | false =>
      show wpAny _ X.A (handleBy (.ref a) X.env []) _ _ _
      refine wpAny_handleBy_nil ?_
      obtain ⟨k1, k2, k3, oe, vs, T, oT, ts', he, hz, hd, h1, hr⟩ := id fl4
      unfold PySem.passOn
      refine wpAny_bind (wpAny_field he hd h1 ?_)
      rw [if_neg (show ¬ ((Value.ref T == Value.none) = true) from by simp)]
      have fin : wpAny (model X.prog X.w) X.A (setFlight (.ref a) X.env.frame) (fun _ s4 => wpAny (model X.prog X.w) X.A (throw (.ref a) : Sem Flow) (SP X pins D) X.xe s4) X.xe { s' with heap := h3.push { cls := .type "tuple", data := .seq [c1, c2].toArray } } := by
        rw [hf]
        refine PySem.HandSPX.setFlight_upZ fl4 fun h4 hh4 up5 => wpAny_throw (tk _ _ ?_)
        exact ⟨a, B, sI, pins, σ', H', cls, d, rfl, J, nb, up4.trans up5, .inr (.inr (by rw [hs]; exact hh4)), na, os, ag, hno rfl⟩
      first
        | exact wpAny_bind (wpAny_pure (wpAny_bind fin))
        | exact wpAny_bind fin
  · cases f with
    | next => obtain ⟨_, _, J', q⟩ := hsp; exact wpAny_execs_nil ⟨_, _, J'.ofTry ok, q⟩
    | brk => obtain ⟨_, _, J', q⟩ := hsp; exact ⟨_, _, J'.ofTry ok, q⟩
    | cont => obtain ⟨_, _, J', q⟩ := hsp; exact ⟨_, _, J'.ofTry ok, q⟩
    | ret u => obtain ⟨_, _, _, J', r, q⟩ := hsp; exact ⟨_, _, _, J'.ofTry ok, r, q⟩
end
section
variable {K : PySem.W.Frag} {F : Fr} {ρ : List Slot} {d : D}
theorem exm_any2 {cls c1 c2 : Value} {b1 b2 : Bool} (h1 : PySem.W.exmOne K cls c1 = some b1) (h2 : PySem.W.exmOne K cls c2 = some b2) : PySem.W.exmAny K cls [c1, c2] = some (b1 || b2) := by
  have e2 : PySem.W.exmAny K cls [c2] = some (b2 || false) := by
    unfold PySem.W.exmAny
    rw [h2]
    rfl
  unfold PySem.W.exmAny
  rw [h1, e2, Bool.or_false]
theorem Blk.tryAsg2X {te : XK → TE} {g : TG} {c1 c2 : Value} {i : Nat} {ts : Addr → Value → Option Addr → TS} {Wout : WX} {P : Ps} {C : Addr} {fs : Option (List (Str × D))} (h : GvZ K F ρ te C fs) (n : noOwn ρ = true) (hx : PySem.W.exmAny K (.ref C) [c1, c2] = some true)
    (hs : ∀ F' a dd, F'.L = F.L → XAt K F'.I0 F'.H0 fs dd → Blk K F' (ρ.set i (.imm (.at_ a))) (ts a (.ref C) dd) (suiteP i P)) : Blk K F ρ (fun D σ H => tAsg (fun σ => te (WE (wAs2 K c1 c2 i ts Wout D) σ) σ) g D σ H) P := ⟨fun s e => h.run s fun d I' H' st xa =>
  ⟨true, hx, fun _ a _ => Blk.rebase ((s.step st).set (.at_ a) i) (noOwn_set (d := .at_ a) n) (suite_ends e st.i) (hs ⟨H', I', F.L⟩ a d rfl xa), fun z => by cases z⟩⟩
theorem Blk.tryAsg2N {te : XK → TE} {j : Nat} {c1 c2 : Value} {i : Nat} {ts : Addr → Value → Option Addr → TS} {Wout : WX} {P : Ps} (h : ∀ X, GvE K F ρ (te X) d) (q : P.nx (ρ.set j (.imm d))) : Blk K F ρ (fun D σ H => tAsg (fun σ => te (WE (wAs2 K c1 c2 i ts Wout D) σ) σ) (gName j) D σ H) P := ⟨fun s e => (h _).run s fun v I1 H1 s1 a1 => e.nx q s1.i ((s.step s1).set a1 j)⟩
end
theorem rm_upper {K : PySem.W.Frag} {F : Fr} {x : Str} (hl : x.length ≤ 5592405) : RlM K F (fun x xs H Q => ∃ a, x = .str a ∧ xs = [] ∧ a.length ≤ 5592405 ∧ Q (.str (Txt.upper a)) H) (.str x) [] (.str (Txt.upper x)) := ⟨fun o a b k => by
  cases b
  exact ⟨x, a.inv_str, rfl, hl, k _ _ _ (.refl o.u) (.str _)⟩⟩
end Own

set_option Elab.async false
set_option maxRecDepth 100000
set_option maxHeartbeats 4000000
set_option linter.all false
namespace My
open PySem L2 Own
def top (i : Nat) : Stmt := PySem.Challenge.pw_oneroof_k06_worlds_refused.main.body.getD i (.Pass ⟨0, 0, 0, 0⟩)
abbrev s_World_init : Stmt := inClass (top 29) 0
abbrev N_World_init : List Str := ["self", "coins", "houses"]
abbrev ps_World_init : List Str := ["self", "coins", "houses"]
theorem sc_World_init : FnScope N_World_init ps_World_init (defScope s_World_init) := ⟨rfl, rfl, rfl, by decide +kernel, rfl, by decide +kernel, by decide +kernel⟩
abbrev s_need_number : Stmt := top 30
abbrev N_need_number : List Str := ["sort", "number", "least", "most"]
abbrev ps_need_number : List Str := ["sort", "number"]
theorem sc_need_number : FnScope N_need_number ps_need_number (defScope s_need_number) := ⟨rfl, rfl, rfl, by decide +kernel, rfl, by decide +kernel, by decide +kernel⟩
abbrev s_need_name : Stmt := top 31
abbrev N_need_name : List Str := ["name", "sign"]
abbrev ps_need_name : List Str := ["name"]
theorem sc_need_name : FnScope N_need_name ps_need_name (defScope s_need_name) := ⟨rfl, rfl, rfl, by decide +kernel, rfl, by decide +kernel, by decide +kernel⟩
abbrev s_numbers_by_name : Stmt := top 32
abbrev N_numbers_by_name : List Str := ["rows", "most", "sort", "numbers", "name", "number"]
abbrev ps_numbers_by_name : List Str := ["rows", "most", "sort"]
theorem sc_numbers_by_name : FnScope N_numbers_by_name ps_numbers_by_name (defScope s_numbers_by_name) := ⟨rfl, rfl, rfl, by decide +kernel, rfl, by decide +kernel, by decide +kernel⟩
abbrev s_l_cell : Stmt := top 34
abbrev N_l_cell : List Str := ["_law_script", "_law_k", "_law_base", "_law_one"]
abbrev ps_l_cell : List Str := ["_law_script", "_law_k"]
theorem sc_l_cell : FnScope N_l_cell ps_l_cell (defScope s_l_cell) := ⟨rfl, rfl, rfl, by decide +kernel, rfl, by decide +kernel, by decide +kernel⟩
abbrev s_l_digits : Stmt := top 35
abbrev N_l_digits : List Str := ["_law_script", "_law_k", "_law_sizes", "_law_cell_here", "_law_out", "_law_rest", "_law_size", "_law_one", "_law_j", "_law_two"]
abbrev ps_l_digits : List Str := ["_law_script", "_law_k", "_law_sizes"]
theorem sc_l_digits : FnScope N_l_digits ps_l_digits (defScope s_l_digits) := ⟨rfl, rfl, rfl, by decide +kernel, rfl, by decide +kernel, by decide +kernel⟩
abbrev s_l_names : Stmt := top 36
abbrev N_l_names : List Str := ["_law_script", "_law_k", "_law_many", "_law_found", "_law_letters", "_law_j", "_law_one", "_law_two", "_law_size", "_law_place", "_law_rest", "_law_name", "_law_i", "_law_tail"]
abbrev ps_l_names : List Str := ["_law_script", "_law_k", "_law_many"]
theorem sc_l_names : FnScope N_l_names ps_l_names (defScope s_l_names) := ⟨rfl, rfl, rfl, by decide +kernel, rfl, by decide +kernel, by decide +kernel⟩
abbrev s_l_name_ok : Stmt := top 37
abbrev N_l_name_ok : List Str := ["_law_name", "_law_sign"]
abbrev ps_l_name_ok : List Str := ["_law_name"]
theorem sc_l_name_ok : FnScope N_l_name_ok ps_l_name_ok (defScope s_l_name_ok) := ⟨rfl, rfl, rfl, by decide +kernel, rfl, by decide +kernel, by decide +kernel⟩
abbrev s_l_field : Stmt := top 38
abbrev N_l_field : List Str := ["_law_e", "_law_word"]
abbrev ps_l_field : List Str := ["_law_e", "_law_word"]
theorem sc_l_field : FnScope N_l_field ps_l_field (defScope s_l_field) := ⟨rfl, rfl, rfl, by decide +kernel, rfl, by decide +kernel, by decide +kernel⟩
abbrev s_l_kin : Stmt := top 39
abbrev N_l_kin : List Str := ["_law_e", "_law_rows", "_law_word", "_law_found", "_law_outer", "_law_due", "_law_yes"]
abbrev ps_l_kin : List Str := ["_law_e"]
theorem sc_l_kin : FnScope N_l_kin ps_l_kin (defScope s_l_kin) := ⟨rfl, rfl, rfl, by decide +kernel, rfl, by decide +kernel, by decide +kernel⟩
abbrev s_l_same : Stmt := top 40
abbrev N_l_same : List Str := ["_law_one", "_law_other"]
abbrev ps_l_same : List Str := ["_law_one", "_law_other"]
theorem sc_l_same : FnScope N_l_same ps_l_same (defScope s_l_same) := ⟨rfl, rfl, rfl, by decide +kernel, rfl, by decide +kernel, by decide +kernel⟩
abbrev s_l_rows_by : Stmt := top 41
abbrev N_l_rows_by : List Str := ["_law_script", "_law_k", "_law_many", "_law_bound", "_law_names_here", "_law_rows", "_law_j", "_law_much", "_law_lean"]
abbrev ps_l_rows_by : List Str := ["_law_script", "_law_k", "_law_many", "_law_bound"]
theorem sc_l_rows_by : FnScope N_l_rows_by ps_l_rows_by (defScope s_l_rows_by) := ⟨rfl, rfl, rfl, by decide +kernel, rfl, by decide +kernel, by decide +kernel⟩
abbrev s_l_bent : Stmt := top 42
abbrev N_l_bent : List Str := ["_law_script", "_law_k", "_law_rows", "_law_bound", "_law_found", "_law_j", "_law_how", "_law_place", "_law_one", "_law_at", "_law_name", "_law_number"]
abbrev ps_l_bent : List Str := ["_law_script", "_law_k", "_law_rows", "_law_bound"]
theorem sc_l_bent : FnScope N_l_bent ps_l_bent (defScope s_l_bent) := ⟨rfl, rfl, rfl, by decide +kernel, rfl, by decide +kernel, by decide +kernel⟩
abbrev s_l_look : Stmt := top 43
abbrev N_l_look : List Str := ["_law_rows", "_law_most", "_law_bound", "_law_names_here", "_law_name", "_law_number"]
abbrev ps_l_look : List Str := ["_law_rows", "_law_most", "_law_bound"]
theorem sc_l_look : FnScope N_l_look ps_l_look (defScope s_l_look) := ⟨rfl, rfl, rfl, by decide +kernel, rfl, by decide +kernel, by decide +kernel⟩
abbrev s_law : Stmt := top 44
abbrev N_law : List Str := ["_law_script", "_law_k", "_law_many", "_law_folk", "_law_lean", "_law_coins", "_law_houses", "_law_due", "_law_handed", "_law_found", "_law_e", "_law_word"]
abbrev ps_law : List Str := ["_law_script"]
theorem sc_law : FnScope N_law ps_law (defScope s_law) := ⟨rfl, rfl, rfl, by decide +kernel, rfl, by decide +kernel, by decide +kernel⟩
abbrev s_BadName_init : Stmt := inClass (top 3) 0
abbrev s_Taken_init : Stmt := inClass (top 7) 0
abbrev s_BadNumber_init : Stmt := inClass (top 5) 0
abbrev s_BadCount_init : Stmt := inClass (top 6) 0
structure Adr where
  C_World : Addr
  C_BadName : Addr
  C_BadDay : Addr
  C_Taken : Addr
  C_BadNumber : Addr
  C_BadCount : Addr
  C_BadDeed : Addr
  C_Clash : Addr
  C_Full : Addr
  C_Short : Addr
  C_Ring : Addr
  C_NoRow : Addr
  C_BadText : Addr
  C_BadForm : Addr
  C_NoHouse : Addr
  C_NoCoin : Addr
  C_NoTelling : Addr
  C_NotRuled : Addr
  C_NoMeasure : Addr
  C_Nothing : Addr
  C_RoofError : Addr
  C_Missing : Addr
  f_World_init : Addr
  d_World_init : FuncData
  f_need_number : Addr
  d_need_number : FuncData
  f_need_name : Addr
  d_need_name : FuncData
  f_numbers_by_name : Addr
  d_numbers_by_name : FuncData
  f_l_cell : Addr
  d_l_cell : FuncData
  f_l_digits : Addr
  d_l_digits : FuncData
  f_l_names : Addr
  d_l_names : FuncData
  f_l_name_ok : Addr
  d_l_name_ok : FuncData
  f_l_field : Addr
  d_l_field : FuncData
  f_l_kin : Addr
  d_l_kin : FuncData
  f_l_same : Addr
  d_l_same : FuncData
  f_l_rows_by : Addr
  d_l_rows_by : FuncData
  f_l_bent : Addr
  d_l_bent : FuncData
  f_l_look : Addr
  d_l_look : FuncData
  f_law : Addr
  d_law : FuncData
  B_BOUNDS : Addr
  BT_BOUNDS_rate : Addr
  BT_BOUNDS_shares : Addr
  BT_BOUNDS_change : Addr
  BT_BOUNDS_amount : Addr
  BT_BOUNDS_count : Addr
  BT_BOUNDS_price : Addr
  BT_BOUNDS_times : Addr
  BT_BOUNDS_per : Addr
  f_BadName_init : Addr
  d_BadName_init : FuncData
  f_Taken_init : Addr
  d_Taken_init : FuncData
  f_BadNumber_init : Addr
  d_BadNumber_init : FuncData
  f_BadCount_init : Addr
  d_BadCount_init : FuncData
/-- what the walk asks of the text -/
structure Tx (a : Adr) (K : PySem.W.Frag) (mg : Str → Option Value) (w : World) : Prop where
  F_World_init : Fun K "__init__" "World.__init__" s_World_init a.f_World_init a.d_World_init
  F_need_number : Fun K "_need_number" "_need_number" s_need_number a.f_need_number a.d_need_number
  mg_need_number : mg "_need_number" = some (.ref a.f_need_number)
  F_need_name : Fun K "_need_name" "_need_name" s_need_name a.f_need_name a.d_need_name
  mg_need_name : mg "_need_name" = some (.ref a.f_need_name)
  F_numbers_by_name : Fun K "_numbers_by_name" "_numbers_by_name" s_numbers_by_name a.f_numbers_by_name a.d_numbers_by_name
  mg_numbers_by_name : mg "_numbers_by_name" = some (.ref a.f_numbers_by_name)
  F_l_cell : Fun K "_law_cell" "_law_cell" s_l_cell a.f_l_cell a.d_l_cell
  mg_l_cell : mg "_law_cell" = some (.ref a.f_l_cell)
  F_l_digits : Fun K "_law_digits" "_law_digits" s_l_digits a.f_l_digits a.d_l_digits
  mg_l_digits : mg "_law_digits" = some (.ref a.f_l_digits)
  F_l_names : Fun K "_law_names" "_law_names" s_l_names a.f_l_names a.d_l_names
  mg_l_names : mg "_law_names" = some (.ref a.f_l_names)
  F_l_name_ok : Fun K "_law_name_ok" "_law_name_ok" s_l_name_ok a.f_l_name_ok a.d_l_name_ok
  mg_l_name_ok : mg "_law_name_ok" = some (.ref a.f_l_name_ok)
  F_l_field : Fun K "_law_field" "_law_field" s_l_field a.f_l_field a.d_l_field
  mg_l_field : mg "_law_field" = some (.ref a.f_l_field)
  F_l_kin : Fun K "_law_kin" "_law_kin" s_l_kin a.f_l_kin a.d_l_kin
  mg_l_kin : mg "_law_kin" = some (.ref a.f_l_kin)
  F_l_same : Fun K "_law_same" "_law_same" s_l_same a.f_l_same a.d_l_same
  mg_l_same : mg "_law_same" = some (.ref a.f_l_same)
  F_l_rows_by : Fun K "_law_rows_by" "_law_rows_by" s_l_rows_by a.f_l_rows_by a.d_l_rows_by
  mg_l_rows_by : mg "_law_rows_by" = some (.ref a.f_l_rows_by)
  F_l_bent : Fun K "_law_bent" "_law_bent" s_l_bent a.f_l_bent a.d_l_bent
  mg_l_bent : mg "_law_bent" = some (.ref a.f_l_bent)
  F_l_look : Fun K "_law_look" "_law_look" s_l_look a.f_l_look a.d_l_look
  mg_l_look : mg "_law_look" = some (.ref a.f_l_look)
  F_law : Fun K "law" "law" s_law a.f_law a.d_law
  mg_law : mg "law" = some (.ref a.f_law)
  mg_World : mg "World" = some (.ref a.C_World)
  kp_World : PySem.W.keepIn K (.ref a.C_World) = true
  cl_World : Cls K a.C_World
  mk_World : Mk K a.C_World a.f_World_init
  na_World__rates : PySem.W.findIn K (.ref a.C_World) "_rates" = some none
  na_World__shares : PySem.W.findIn K (.ref a.C_World) "_shares" = some none
  mg_BadName : mg "BadName" = some (.ref a.C_BadName)
  kp_BadName : PySem.W.keepIn K (.ref a.C_BadName) = true
  xb_BadName : PySem.W.subIn K (.ref a.C_BadName) (.type "BaseException") = some true
  xt_BadName : PySem.W.typeIn K (.ref a.C_BadName) = some (.type "type")
  xc_BadName : ExcC K a.C_BadName
  nf_BadName_name : PySem.W.findIn K (.ref a.C_BadName) "name" = some none
  nf_BadName_day : PySem.W.findIn K (.ref a.C_BadName) "day" = some none
  nf_BadName_count : PySem.W.findIn K (.ref a.C_BadName) "count" = some none
  nf_BadName_number : PySem.W.findIn K (.ref a.C_BadName) "number" = some none
  nf_BadName_line : PySem.W.findIn K (.ref a.C_BadName) "line" = some none
  su_BadName : SupD K mg a.C_BadName "ValueError.__init__" s_BadName_init "BadName.__init__" "name" a.f_BadName_init a.d_BadName_init
  ox_BadName : OxC K "ValueError" "ValueError.__new__" "ValueError.__init__" [.type "ValueError", .type "Exception", .type "BaseException", .type "object"] a.C_BadName
  kit_BadName_ValueError : PySem.W.kitOne K (.ref a.C_BadName) (.type "ValueError") = some true
  kit_BadName_LookupError : PySem.W.kitOne K (.ref a.C_BadName) (.type "LookupError") = some false
  kit_BadName_ZeroDivisionError : PySem.W.kitOne K (.ref a.C_BadName) (.type "ZeroDivisionError") = some false
  kit_BadName_IndexError : PySem.W.kitOne K (.ref a.C_BadName) (.type "IndexError") = some false
  xe_BadName_RoofError : PySem.W.subIn K (.ref a.C_BadName) (.ref a.C_RoofError) = some true
  xb_RoofError : PySem.W.subIn K (.ref a.C_RoofError) (.type "BaseException") = some true
  xt_RoofError : PySem.W.typeIn K (.ref a.C_RoofError) = some (.type "type")
  xi_RoofError : PySem.W.hasDictIn K a.C_RoofError = true
  kit_BadName_BadName : PySem.W.kitOne K (.ref a.C_BadName) (.ref a.C_BadName) = some true
  kit_Taken_BadName : PySem.W.kitOne K (.ref a.C_Taken) (.ref a.C_BadName) = some false
  kit_BadNumber_BadName : PySem.W.kitOne K (.ref a.C_BadNumber) (.ref a.C_BadName) = some false
  kit_BadCount_BadName : PySem.W.kitOne K (.ref a.C_BadCount) (.ref a.C_BadName) = some false
  mg_BadDay : mg "BadDay" = some (.ref a.C_BadDay)
  kp_BadDay : PySem.W.keepIn K (.ref a.C_BadDay) = true
  kit_BadName_BadDay : PySem.W.kitOne K (.ref a.C_BadName) (.ref a.C_BadDay) = some false
  kit_Taken_BadDay : PySem.W.kitOne K (.ref a.C_Taken) (.ref a.C_BadDay) = some false
  kit_BadNumber_BadDay : PySem.W.kitOne K (.ref a.C_BadNumber) (.ref a.C_BadDay) = some false
  kit_BadCount_BadDay : PySem.W.kitOne K (.ref a.C_BadCount) (.ref a.C_BadDay) = some false
  mg_Taken : mg "Taken" = some (.ref a.C_Taken)
  kp_Taken : PySem.W.keepIn K (.ref a.C_Taken) = true
  xb_Taken : PySem.W.subIn K (.ref a.C_Taken) (.type "BaseException") = some true
  xt_Taken : PySem.W.typeIn K (.ref a.C_Taken) = some (.type "type")
  xc_Taken : ExcC K a.C_Taken
  nf_Taken_name : PySem.W.findIn K (.ref a.C_Taken) "name" = some none
  nf_Taken_day : PySem.W.findIn K (.ref a.C_Taken) "day" = some none
  nf_Taken_count : PySem.W.findIn K (.ref a.C_Taken) "count" = some none
  nf_Taken_number : PySem.W.findIn K (.ref a.C_Taken) "number" = some none
  nf_Taken_line : PySem.W.findIn K (.ref a.C_Taken) "line" = some none
  su_Taken : SupD K mg a.C_Taken "ValueError.__init__" s_Taken_init "Taken.__init__" "name" a.f_Taken_init a.d_Taken_init
  ox_Taken : OxC K "ValueError" "ValueError.__new__" "ValueError.__init__" [.type "ValueError", .type "Exception", .type "BaseException", .type "object"] a.C_Taken
  kit_Taken_ValueError : PySem.W.kitOne K (.ref a.C_Taken) (.type "ValueError") = some true
  kit_Taken_LookupError : PySem.W.kitOne K (.ref a.C_Taken) (.type "LookupError") = some false
  kit_Taken_ZeroDivisionError : PySem.W.kitOne K (.ref a.C_Taken) (.type "ZeroDivisionError") = some false
  kit_Taken_IndexError : PySem.W.kitOne K (.ref a.C_Taken) (.type "IndexError") = some false
  xe_Taken_RoofError : PySem.W.subIn K (.ref a.C_Taken) (.ref a.C_RoofError) = some true
  kit_BadName_Taken : PySem.W.kitOne K (.ref a.C_BadName) (.ref a.C_Taken) = some false
  kit_Taken_Taken : PySem.W.kitOne K (.ref a.C_Taken) (.ref a.C_Taken) = some true
  kit_BadNumber_Taken : PySem.W.kitOne K (.ref a.C_BadNumber) (.ref a.C_Taken) = some false
  kit_BadCount_Taken : PySem.W.kitOne K (.ref a.C_BadCount) (.ref a.C_Taken) = some false
  mg_BadNumber : mg "BadNumber" = some (.ref a.C_BadNumber)
  kp_BadNumber : PySem.W.keepIn K (.ref a.C_BadNumber) = true
  xb_BadNumber : PySem.W.subIn K (.ref a.C_BadNumber) (.type "BaseException") = some true
  xt_BadNumber : PySem.W.typeIn K (.ref a.C_BadNumber) = some (.type "type")
  xc_BadNumber : ExcC K a.C_BadNumber
  nf_BadNumber_name : PySem.W.findIn K (.ref a.C_BadNumber) "name" = some none
  nf_BadNumber_day : PySem.W.findIn K (.ref a.C_BadNumber) "day" = some none
  nf_BadNumber_count : PySem.W.findIn K (.ref a.C_BadNumber) "count" = some none
  nf_BadNumber_number : PySem.W.findIn K (.ref a.C_BadNumber) "number" = some none
  nf_BadNumber_line : PySem.W.findIn K (.ref a.C_BadNumber) "line" = some none
  su_BadNumber : SupD K mg a.C_BadNumber "ValueError.__init__" s_BadNumber_init "BadNumber.__init__" "number" a.f_BadNumber_init a.d_BadNumber_init
  ox_BadNumber : OxC K "ValueError" "ValueError.__new__" "ValueError.__init__" [.type "ValueError", .type "Exception", .type "BaseException", .type "object"] a.C_BadNumber
  kit_BadNumber_ValueError : PySem.W.kitOne K (.ref a.C_BadNumber) (.type "ValueError") = some true
  kit_BadNumber_LookupError : PySem.W.kitOne K (.ref a.C_BadNumber) (.type "LookupError") = some false
  kit_BadNumber_ZeroDivisionError : PySem.W.kitOne K (.ref a.C_BadNumber) (.type "ZeroDivisionError") = some false
  kit_BadNumber_IndexError : PySem.W.kitOne K (.ref a.C_BadNumber) (.type "IndexError") = some false
  xe_BadNumber_RoofError : PySem.W.subIn K (.ref a.C_BadNumber) (.ref a.C_RoofError) = some true
  kit_BadName_BadNumber : PySem.W.kitOne K (.ref a.C_BadName) (.ref a.C_BadNumber) = some false
  kit_Taken_BadNumber : PySem.W.kitOne K (.ref a.C_Taken) (.ref a.C_BadNumber) = some false
  kit_BadNumber_BadNumber : PySem.W.kitOne K (.ref a.C_BadNumber) (.ref a.C_BadNumber) = some true
  kit_BadCount_BadNumber : PySem.W.kitOne K (.ref a.C_BadCount) (.ref a.C_BadNumber) = some false
  mg_BadCount : mg "BadCount" = some (.ref a.C_BadCount)
  kp_BadCount : PySem.W.keepIn K (.ref a.C_BadCount) = true
  xb_BadCount : PySem.W.subIn K (.ref a.C_BadCount) (.type "BaseException") = some true
  xt_BadCount : PySem.W.typeIn K (.ref a.C_BadCount) = some (.type "type")
  xc_BadCount : ExcC K a.C_BadCount
  nf_BadCount_name : PySem.W.findIn K (.ref a.C_BadCount) "name" = some none
  nf_BadCount_day : PySem.W.findIn K (.ref a.C_BadCount) "day" = some none
  nf_BadCount_count : PySem.W.findIn K (.ref a.C_BadCount) "count" = some none
  nf_BadCount_number : PySem.W.findIn K (.ref a.C_BadCount) "number" = some none
  nf_BadCount_line : PySem.W.findIn K (.ref a.C_BadCount) "line" = some none
  su_BadCount : SupD K mg a.C_BadCount "ValueError.__init__" s_BadCount_init "BadCount.__init__" "count" a.f_BadCount_init a.d_BadCount_init
  ox_BadCount : OxC K "ValueError" "ValueError.__new__" "ValueError.__init__" [.type "ValueError", .type "Exception", .type "BaseException", .type "object"] a.C_BadCount
  kit_BadCount_ValueError : PySem.W.kitOne K (.ref a.C_BadCount) (.type "ValueError") = some true
  kit_BadCount_LookupError : PySem.W.kitOne K (.ref a.C_BadCount) (.type "LookupError") = some false
  kit_BadCount_ZeroDivisionError : PySem.W.kitOne K (.ref a.C_BadCount) (.type "ZeroDivisionError") = some false
  kit_BadCount_IndexError : PySem.W.kitOne K (.ref a.C_BadCount) (.type "IndexError") = some false
  xe_BadCount_RoofError : PySem.W.subIn K (.ref a.C_BadCount) (.ref a.C_RoofError) = some true
  kit_BadName_BadCount : PySem.W.kitOne K (.ref a.C_BadName) (.ref a.C_BadCount) = some false
  kit_Taken_BadCount : PySem.W.kitOne K (.ref a.C_Taken) (.ref a.C_BadCount) = some false
  kit_BadNumber_BadCount : PySem.W.kitOne K (.ref a.C_BadNumber) (.ref a.C_BadCount) = some false
  kit_BadCount_BadCount : PySem.W.kitOne K (.ref a.C_BadCount) (.ref a.C_BadCount) = some true
  mg_BadDeed : mg "BadDeed" = some (.ref a.C_BadDeed)
  kp_BadDeed : PySem.W.keepIn K (.ref a.C_BadDeed) = true
  kit_BadName_BadDeed : PySem.W.kitOne K (.ref a.C_BadName) (.ref a.C_BadDeed) = some false
  kit_Taken_BadDeed : PySem.W.kitOne K (.ref a.C_Taken) (.ref a.C_BadDeed) = some false
  kit_BadNumber_BadDeed : PySem.W.kitOne K (.ref a.C_BadNumber) (.ref a.C_BadDeed) = some false
  kit_BadCount_BadDeed : PySem.W.kitOne K (.ref a.C_BadCount) (.ref a.C_BadDeed) = some false
  mg_Clash : mg "Clash" = some (.ref a.C_Clash)
  kp_Clash : PySem.W.keepIn K (.ref a.C_Clash) = true
  kit_BadName_Clash : PySem.W.kitOne K (.ref a.C_BadName) (.ref a.C_Clash) = some false
  kit_Taken_Clash : PySem.W.kitOne K (.ref a.C_Taken) (.ref a.C_Clash) = some false
  kit_BadNumber_Clash : PySem.W.kitOne K (.ref a.C_BadNumber) (.ref a.C_Clash) = some false
  kit_BadCount_Clash : PySem.W.kitOne K (.ref a.C_BadCount) (.ref a.C_Clash) = some false
  mg_Full : mg "Full" = some (.ref a.C_Full)
  kp_Full : PySem.W.keepIn K (.ref a.C_Full) = true
  kit_BadName_Full : PySem.W.kitOne K (.ref a.C_BadName) (.ref a.C_Full) = some false
  kit_Taken_Full : PySem.W.kitOne K (.ref a.C_Taken) (.ref a.C_Full) = some false
  kit_BadNumber_Full : PySem.W.kitOne K (.ref a.C_BadNumber) (.ref a.C_Full) = some false
  kit_BadCount_Full : PySem.W.kitOne K (.ref a.C_BadCount) (.ref a.C_Full) = some false
  mg_Short : mg "Short" = some (.ref a.C_Short)
  kp_Short : PySem.W.keepIn K (.ref a.C_Short) = true
  kit_BadName_Short : PySem.W.kitOne K (.ref a.C_BadName) (.ref a.C_Short) = some false
  kit_Taken_Short : PySem.W.kitOne K (.ref a.C_Taken) (.ref a.C_Short) = some false
  kit_BadNumber_Short : PySem.W.kitOne K (.ref a.C_BadNumber) (.ref a.C_Short) = some false
  kit_BadCount_Short : PySem.W.kitOne K (.ref a.C_BadCount) (.ref a.C_Short) = some false
  mg_Ring : mg "Ring" = some (.ref a.C_Ring)
  kp_Ring : PySem.W.keepIn K (.ref a.C_Ring) = true
  kit_BadName_Ring : PySem.W.kitOne K (.ref a.C_BadName) (.ref a.C_Ring) = some false
  kit_Taken_Ring : PySem.W.kitOne K (.ref a.C_Taken) (.ref a.C_Ring) = some false
  kit_BadNumber_Ring : PySem.W.kitOne K (.ref a.C_BadNumber) (.ref a.C_Ring) = some false
  kit_BadCount_Ring : PySem.W.kitOne K (.ref a.C_BadCount) (.ref a.C_Ring) = some false
  mg_NoRow : mg "NoRow" = some (.ref a.C_NoRow)
  kp_NoRow : PySem.W.keepIn K (.ref a.C_NoRow) = true
  kit_BadName_NoRow : PySem.W.kitOne K (.ref a.C_BadName) (.ref a.C_NoRow) = some false
  kit_Taken_NoRow : PySem.W.kitOne K (.ref a.C_Taken) (.ref a.C_NoRow) = some false
  kit_BadNumber_NoRow : PySem.W.kitOne K (.ref a.C_BadNumber) (.ref a.C_NoRow) = some false
  kit_BadCount_NoRow : PySem.W.kitOne K (.ref a.C_BadCount) (.ref a.C_NoRow) = some false
  mg_BadText : mg "BadText" = some (.ref a.C_BadText)
  kp_BadText : PySem.W.keepIn K (.ref a.C_BadText) = true
  kit_BadName_BadText : PySem.W.kitOne K (.ref a.C_BadName) (.ref a.C_BadText) = some false
  kit_Taken_BadText : PySem.W.kitOne K (.ref a.C_Taken) (.ref a.C_BadText) = some false
  kit_BadNumber_BadText : PySem.W.kitOne K (.ref a.C_BadNumber) (.ref a.C_BadText) = some false
  kit_BadCount_BadText : PySem.W.kitOne K (.ref a.C_BadCount) (.ref a.C_BadText) = some false
  mg_BadForm : mg "BadForm" = some (.ref a.C_BadForm)
  kp_BadForm : PySem.W.keepIn K (.ref a.C_BadForm) = true
  kit_BadName_BadForm : PySem.W.kitOne K (.ref a.C_BadName) (.ref a.C_BadForm) = some false
  kit_Taken_BadForm : PySem.W.kitOne K (.ref a.C_Taken) (.ref a.C_BadForm) = some false
  kit_BadNumber_BadForm : PySem.W.kitOne K (.ref a.C_BadNumber) (.ref a.C_BadForm) = some false
  kit_BadCount_BadForm : PySem.W.kitOne K (.ref a.C_BadCount) (.ref a.C_BadForm) = some false
  mg_NoHouse : mg "NoHouse" = some (.ref a.C_NoHouse)
  kp_NoHouse : PySem.W.keepIn K (.ref a.C_NoHouse) = true
  kit_BadName_NoHouse : PySem.W.kitOne K (.ref a.C_BadName) (.ref a.C_NoHouse) = some false
  kit_Taken_NoHouse : PySem.W.kitOne K (.ref a.C_Taken) (.ref a.C_NoHouse) = some false
  kit_BadNumber_NoHouse : PySem.W.kitOne K (.ref a.C_BadNumber) (.ref a.C_NoHouse) = some false
  kit_BadCount_NoHouse : PySem.W.kitOne K (.ref a.C_BadCount) (.ref a.C_NoHouse) = some false
  mg_NoCoin : mg "NoCoin" = some (.ref a.C_NoCoin)
  kp_NoCoin : PySem.W.keepIn K (.ref a.C_NoCoin) = true
  kit_BadName_NoCoin : PySem.W.kitOne K (.ref a.C_BadName) (.ref a.C_NoCoin) = some false
  kit_Taken_NoCoin : PySem.W.kitOne K (.ref a.C_Taken) (.ref a.C_NoCoin) = some false
  kit_BadNumber_NoCoin : PySem.W.kitOne K (.ref a.C_BadNumber) (.ref a.C_NoCoin) = some false
  kit_BadCount_NoCoin : PySem.W.kitOne K (.ref a.C_BadCount) (.ref a.C_NoCoin) = some false
  mg_NoTelling : mg "NoTelling" = some (.ref a.C_NoTelling)
  kp_NoTelling : PySem.W.keepIn K (.ref a.C_NoTelling) = true
  kit_BadName_NoTelling : PySem.W.kitOne K (.ref a.C_BadName) (.ref a.C_NoTelling) = some false
  kit_Taken_NoTelling : PySem.W.kitOne K (.ref a.C_Taken) (.ref a.C_NoTelling) = some false
  kit_BadNumber_NoTelling : PySem.W.kitOne K (.ref a.C_BadNumber) (.ref a.C_NoTelling) = some false
  kit_BadCount_NoTelling : PySem.W.kitOne K (.ref a.C_BadCount) (.ref a.C_NoTelling) = some false
  mg_NotRuled : mg "NotRuled" = some (.ref a.C_NotRuled)
  kp_NotRuled : PySem.W.keepIn K (.ref a.C_NotRuled) = true
  kit_BadName_NotRuled : PySem.W.kitOne K (.ref a.C_BadName) (.ref a.C_NotRuled) = some false
  kit_Taken_NotRuled : PySem.W.kitOne K (.ref a.C_Taken) (.ref a.C_NotRuled) = some false
  kit_BadNumber_NotRuled : PySem.W.kitOne K (.ref a.C_BadNumber) (.ref a.C_NotRuled) = some false
  kit_BadCount_NotRuled : PySem.W.kitOne K (.ref a.C_BadCount) (.ref a.C_NotRuled) = some false
  mg_NoMeasure : mg "NoMeasure" = some (.ref a.C_NoMeasure)
  kp_NoMeasure : PySem.W.keepIn K (.ref a.C_NoMeasure) = true
  kit_BadName_NoMeasure : PySem.W.kitOne K (.ref a.C_BadName) (.ref a.C_NoMeasure) = some false
  kit_Taken_NoMeasure : PySem.W.kitOne K (.ref a.C_Taken) (.ref a.C_NoMeasure) = some false
  kit_BadNumber_NoMeasure : PySem.W.kitOne K (.ref a.C_BadNumber) (.ref a.C_NoMeasure) = some false
  kit_BadCount_NoMeasure : PySem.W.kitOne K (.ref a.C_BadCount) (.ref a.C_NoMeasure) = some false
  mg_Nothing : mg "Nothing" = some (.ref a.C_Nothing)
  kp_Nothing : PySem.W.keepIn K (.ref a.C_Nothing) = true
  kit_BadName_Nothing : PySem.W.kitOne K (.ref a.C_BadName) (.ref a.C_Nothing) = some false
  kit_Taken_Nothing : PySem.W.kitOne K (.ref a.C_Taken) (.ref a.C_Nothing) = some false
  kit_BadNumber_Nothing : PySem.W.kitOne K (.ref a.C_BadNumber) (.ref a.C_Nothing) = some false
  kit_BadCount_Nothing : PySem.W.kitOne K (.ref a.C_BadCount) (.ref a.C_Nothing) = some false
  mg_RoofError : mg "RoofError" = some (.ref a.C_RoofError)
  kp_RoofError : PySem.W.keepIn K (.ref a.C_RoofError) = true
  kit_BadName_RoofError : PySem.W.kitOne K (.ref a.C_BadName) (.ref a.C_RoofError) = some true
  kit_Taken_RoofError : PySem.W.kitOne K (.ref a.C_Taken) (.ref a.C_RoofError) = some true
  kit_BadNumber_RoofError : PySem.W.kitOne K (.ref a.C_BadNumber) (.ref a.C_RoofError) = some true
  kit_BadCount_RoofError : PySem.W.kitOne K (.ref a.C_BadCount) (.ref a.C_RoofError) = some true
  mg_Missing : mg "Missing" = some (.ref a.C_Missing)
  kp_Missing : PySem.W.keepIn K (.ref a.C_Missing) = true
  kit_BadName_Missing : PySem.W.kitOne K (.ref a.C_BadName) (.ref a.C_Missing) = some false
  kit_Taken_Missing : PySem.W.kitOne K (.ref a.C_Taken) (.ref a.C_Missing) = some false
  kit_BadNumber_Missing : PySem.W.kitOne K (.ref a.C_BadNumber) (.ref a.C_Missing) = some false
  kit_BadCount_Missing : PySem.W.kitOne K (.ref a.C_BadCount) (.ref a.C_Missing) = some false
  mg_MOST_COINS : ∃ t, mg "MOST_COINS" = some (.int 5 t)
  mg_MOST_HOUSES : ∃ t, mg "MOST_HOUSES" = some (.int 8 t)
  mg_MOST_LETTERS : ∃ t, mg "MOST_LETTERS" = some (.int 6 t)
  mg_LETTERS : ∃ t, mg "LETTERS" = some (.str "abcdefghijklmnopqrstuvwxyz" t)
  mg_BOUNDS : mg "BOUNDS" = some (.ref a.B_BOUNDS)
  ix_BOUNDS_rate : KDct K w a.B_BOUNDS "rate" (.ref a.BT_BOUNDS_rate)
  sq_BOUNDS_rate : SqtK K a.BT_BOUNDS_rate [V.int 1, V.int 1000000000]
  ix_BOUNDS_shares : KDct K w a.B_BOUNDS "shares" (.ref a.BT_BOUNDS_shares)
  sq_BOUNDS_shares : SqtK K a.BT_BOUNDS_shares [V.int 1, V.int 1000000]
  ix_BOUNDS_change : KDct K w a.B_BOUNDS "change" (.ref a.BT_BOUNDS_change)
  sq_BOUNDS_change : SqtK K a.BT_BOUNDS_change [V.int (-1000000000000), V.int 1000000000000]
  ix_BOUNDS_amount : KDct K w a.B_BOUNDS "amount" (.ref a.BT_BOUNDS_amount)
  sq_BOUNDS_amount : SqtK K a.BT_BOUNDS_amount [V.int 1, V.int 1000000000000]
  ix_BOUNDS_count : KDct K w a.B_BOUNDS "count" (.ref a.BT_BOUNDS_count)
  sq_BOUNDS_count : SqtK K a.BT_BOUNDS_count [V.int 1, V.int 1000000]
  ix_BOUNDS_price : KDct K w a.B_BOUNDS "price" (.ref a.BT_BOUNDS_price)
  sq_BOUNDS_price : SqtK K a.BT_BOUNDS_price [V.int 0, V.int 1000000000000]
  ix_BOUNDS_times : KDct K w a.B_BOUNDS "times" (.ref a.BT_BOUNDS_times)
  sq_BOUNDS_times : SqtK K a.BT_BOUNDS_times [V.int 2, V.int 9]
  ix_BOUNDS_per : KDct K w a.B_BOUNDS "per" (.ref a.BT_BOUNDS_per)
  sq_BOUNDS_per : SqtK K a.BT_BOUNDS_per [V.int 1, V.int 1000000]
  no_len : mg "len" = none
  no_range : mg "range" = none
  no_isinstance : mg "isinstance" = none
  no_repr : mg "repr" = none
  no_dict : mg "dict" = none
  no_list : mg "list" = none
  no_sorted : mg "sorted" = none
  no_zip : mg "zip" = none
  no_abs : mg "abs" = none
  no_ValueError : mg "ValueError" = none
  no_LookupError : mg "LookupError" = none
  no_ZeroDivisionError : mg "ZeroDivisionError" = none
  no_IndexError : mg "IndexError" = none
  no_all : mg "all" = none
section
variable {P : Program} [PO P] {w : World} {K : PySem.W.Frag} {mg : Str → Option Value} {base : Heap} {a : Adr}
theorem cxK {CX : CXT} {N : List Str} {q : Str} {sc : Scope} {f : Addr} {cdv : Value} {A : Around} {outer : List Env} {s : Shared} {H : Hp} {E : XK} : (cxOf CX P w K mg base N q sc f cdv A outer s H E).K = K := rfl
theorem bnd_World_init (T : Tx a K mg w) : Binds K a.d_World_init ps_World_init [] :=
  T.F_World_init.binds (ps := ps_World_init) fun _ _ _ _ _ _ us hl => match us, hl with | [_, _, _], _ => rfl
theorem bnd_need_number (T : Tx a K mg w) : Binds K a.d_need_number ps_need_number [] :=
  T.F_need_number.binds (ps := ps_need_number) fun _ _ _ _ _ _ us hl => match us, hl with | [_, _], _ => rfl
theorem bnd_need_name (T : Tx a K mg w) : Binds K a.d_need_name ps_need_name [] :=
  T.F_need_name.binds (ps := ps_need_name) fun _ _ _ _ _ _ us hl => match us, hl with | [_], _ => rfl
theorem bnd_numbers_by_name (T : Tx a K mg w) : Binds K a.d_numbers_by_name ps_numbers_by_name [] :=
  T.F_numbers_by_name.binds (ps := ps_numbers_by_name) fun _ _ _ _ _ _ us hl => match us, hl with | [_, _, _], _ => rfl
theorem bnd_l_cell (T : Tx a K mg w) : Binds K a.d_l_cell ps_l_cell [] :=
  T.F_l_cell.binds (ps := ps_l_cell) fun _ _ _ _ _ _ us hl => match us, hl with | [_, _], _ => rfl
theorem bnd_l_digits (T : Tx a K mg w) : Binds K a.d_l_digits ps_l_digits [] :=
  T.F_l_digits.binds (ps := ps_l_digits) fun _ _ _ _ _ _ us hl => match us, hl with | [_, _, _], _ => rfl
theorem bnd_l_names (T : Tx a K mg w) : Binds K a.d_l_names ps_l_names [] :=
  T.F_l_names.binds (ps := ps_l_names) fun _ _ _ _ _ _ us hl => match us, hl with | [_, _, _], _ => rfl
theorem bnd_l_name_ok (T : Tx a K mg w) : Binds K a.d_l_name_ok ps_l_name_ok [] :=
  T.F_l_name_ok.binds (ps := ps_l_name_ok) fun _ _ _ _ _ _ us hl => match us, hl with | [_], _ => rfl
theorem bnd_l_field (T : Tx a K mg w) : Binds K a.d_l_field ps_l_field [] :=
  T.F_l_field.binds (ps := ps_l_field) fun _ _ _ _ _ _ us hl => match us, hl with | [_, _], _ => rfl
theorem bnd_l_kin (T : Tx a K mg w) : Binds K a.d_l_kin ps_l_kin [] :=
  T.F_l_kin.binds (ps := ps_l_kin) fun _ _ _ _ _ _ us hl => match us, hl with | [_], _ => rfl
theorem bnd_l_same (T : Tx a K mg w) : Binds K a.d_l_same ps_l_same [] :=
  T.F_l_same.binds (ps := ps_l_same) fun _ _ _ _ _ _ us hl => match us, hl with | [_, _], _ => rfl
theorem bnd_l_rows_by (T : Tx a K mg w) : Binds K a.d_l_rows_by ps_l_rows_by [] :=
  T.F_l_rows_by.binds (ps := ps_l_rows_by) fun _ _ _ _ _ _ us hl => match us, hl with | [_, _, _, _], _ => rfl
theorem bnd_l_bent (T : Tx a K mg w) : Binds K a.d_l_bent ps_l_bent [] :=
  T.F_l_bent.binds (ps := ps_l_bent) fun _ _ _ _ _ _ us hl => match us, hl with | [_, _, _, _], _ => rfl
theorem bnd_l_look (T : Tx a K mg w) : Binds K a.d_l_look ps_l_look [] :=
  T.F_l_look.binds (ps := ps_l_look) fun _ _ _ _ _ _ us hl => match us, hl with | [_, _, _], _ => rfl
theorem bnd_law (T : Tx a K mg w) : Binds K a.d_law ps_law [] :=
  T.F_law.binds (ps := ps_law) fun _ _ _ _ _ _ us hl => match us, hl with | [_], _ => rfl
local macro_rules | `(tactic| walk_at "gv") => `(tactic| first
  | (with_reducible first | exact GvE.int | exact GvE.str | exact GvE.bl | exact GvE.non | exact GvE.glob | exact GvE.ty | exact GvA.nil | exact GvT.yes | exact GvO.no | exact GvE.dnew)
  | ((with_reducible apply GvE.var); rfl)
  | ((with_reducible apply GvA.cons) <;> walk_at "gv")
  | ((with_reducible apply GvE.op) <;> walk_at "gv")
  | ((with_reducible first | apply rl_add | apply rl_sub | apply rl_lt | apply rl_le | apply rl_gt | apply rl_ge | apply rl_eqI | apply rl_eqS | apply rl_neI | apply rl_neS | apply rl_neg | apply rl_slL | apply rl_slT | apply rl_inL | apply rl_ninL | apply rl_inT | apply rl_ninT | apply rl_inS | apply rl_ninS | apply rl_isN | apply rl_notN | apply rc_abs | apply rc_max | apply rc_min | apply rc_tupL | apply rc_all | apply rc_any | apply rc_sum | apply rm_starts | apply rc_len (.inl rfl) | apply rc_len (.inr rfl) | apply rc_list (.inl rfl) | apply rc_list (.inr rfl) | apply rl_I | apply rl_cat | apply rl_catT | apply rl_catS | apply rl_ixL | apply rl_ixT | apply rl_ixS | apply rl_ixK | apply rl_slS | apply rc_lenS | apply rc_strI) <;> try first | decide | exact ⟨by decide, by decide⟩ | exact ⟨by decide, by decide, by decide⟩ | with_reducible (first | exact atI_0 | exact atI_1 | exact atI_2 | exact atI_3 | exact atI_4 | exact atI_5))
  | ((with_reducible apply GvE.cb) <;> walk_at "gv")
  | ((with_reducible apply GvE.un) <;> walk_at "gv")
  | ((with_reducible apply GvE.sl) <;> walk_at "gv")
  | ((with_reducible apply GvO.of) <;> walk_at "gv")
  | ((with_reducible apply GvE.m1) <;> walk_at "gv")
  | ((with_reducible apply GvE.m0) <;> walk_at "gv")
  | ((with_reducible apply GvE.tup) <;> walk_at "gv")
  | ((with_reducible apply GvE.lst) <;> walk_at "gv")
  | ((with_reducible apply GvT.test) <;> walk_at "gv")
  | ((with_reducible apply GvT.val) <;> walk_at "gv")
  | ((with_reducible apply GvT.not) <;> walk_at "gv")
  | ((with_reducible apply GvE.notV) <;> walk_at "gv")
  | ((with_reducible apply GvE.call) <;> walk_at "gv")
  | ((with_reducible first | apply GvT.and | apply GvT.or | apply GvE.andV | apply GvE.orV) <;> first | (intro _; walk_at "gv") | walk_at "gv")
  | decide | exact Nat.le_of_ble_eq_true rfl | skip)
local macro_rules | `(tactic| walk_at "nrm") => `(tactic| try simp only [List.set_cons_zero, List.set_cons_succ])
local macro_rules | `(tactic| walk_at "set") => `(tactic| first | ((with_reducible apply Blk.set_); focus walk_at "gv") | skip)
local macro_rules | `(tactic| walk_at "ret") => `(tactic| first | ((with_reducible apply Blk.ret); focus walk_at "gv") | skip)
local macro_rules | `(tactic| walk_at "if") => `(tactic| first | ((with_reducible apply Blk.ifS); focus walk_at "gv") | skip)
local macro_rules | `(tactic| walk_at "asg") => `(tactic| first | ((with_reducible apply Blk.asg); focus walk_at "gv") | skip)
local macro_rules | `(tactic| walk_at "setG") => `(tactic| first | ((with_reducible apply Blk.setG); focus walk_at "gv") | skip)
local macro_rules | `(tactic| walk_at "app") => `(tactic| first | (((with_reducible apply Blk.append); focus rfl); focus walk_at "gv") | skip)
local macro_rules | `(tactic| walk_at "gg") => `(tactic| first
  | (with_reducible first | exact GvG.name | exact GvG.nil)
  | ((with_reducible apply GvG.cons) <;> walk_at "gg")
  | ((with_reducible first | apply GvG.tup | apply GvG.unl) <;> walk_at "gg")
  | decide | rfl | skip)
local macro_rules | `(tactic| walk_at "ifF") => `(tactic| first | ((with_reducible apply Blk.ifF); focus ((with_reducible apply GvT.cast); focus walk_at "gv")) | skip)
local macro_rules | `(tactic| walk_at "ifT") => `(tactic| first | ((with_reducible apply Blk.ifT); focus ((with_reducible apply GvT.cast); focus walk_at "gv")) | skip)
local macro_rules | `(tactic| walk_at "expr") => `(tactic| first | ((with_reducible apply Blk.expr); focus walk_at "gv") | skip)

/-! ### the exceptions' classes -/
theorem scI_BadName : SupScope "name" (defScope s_BadName_init) := ⟨rfl, rfl, rfl, rfl, rfl, by decide +kernel, rfl, rfl, by decide +kernel, by decide +kernel⟩
theorem okI_BadName (T : Tx a K mg w) : FnOk P w K mg base (L2N.CX P w) 1 a.f_BadName_init a.d_BadName_init ["self", "name"] (spS a.C_BadName "name" okTxt) :=
  okSup T.su_BadName T.ox_BadName scI_BadName rfl rfl rfl (fun f cd cc => arg_fmt scI_BadName (by decide +kernel)) (fun _ _ _ _ => rfl) (fun _ _ _ _ => rfl) (fun _ _ _ _ => rfl) (fun _ _ _ _ => rfl)
theorem bndI_BadName (T : Tx a K mg w) : Binds K a.d_BadName_init ["self", "name"] [] := T.su_BadName.binds fun _ _ _ _ _ _ _ us hl => match us, hl with | [_, _], _ => rfl
theorem scI_Taken : SupScope "name" (defScope s_Taken_init) := ⟨rfl, rfl, rfl, rfl, rfl, by decide +kernel, rfl, rfl, by decide +kernel, by decide +kernel⟩
theorem okI_Taken (T : Tx a K mg w) : FnOk P w K mg base (L2N.CX P w) 1 a.f_Taken_init a.d_Taken_init ["self", "name"] (spS a.C_Taken "name" okTxt) :=
  okSup T.su_Taken T.ox_Taken scI_Taken rfl rfl rfl (fun f cd cc => arg_fmt scI_Taken (by decide +kernel)) (fun _ _ _ _ => rfl) (fun _ _ _ _ => rfl) (fun _ _ _ _ => rfl) (fun _ _ _ _ => rfl)
theorem bndI_Taken (T : Tx a K mg w) : Binds K a.d_Taken_init ["self", "name"] [] := T.su_Taken.binds fun _ _ _ _ _ _ _ us hl => match us, hl with | [_, _], _ => rfl
theorem scI_BadNumber : SupScope "number" (defScope s_BadNumber_init) := ⟨rfl, rfl, rfl, rfl, rfl, by decide +kernel, rfl, rfl, by decide +kernel, by decide +kernel⟩
theorem okI_BadNumber (T : Tx a K mg w) : FnOk P w K mg base (L2N.CX P w) 1 a.f_BadNumber_init a.d_BadNumber_init ["self", "number"] (spS a.C_BadNumber "number" okAny) :=
  okSup T.su_BadNumber T.ox_BadNumber scI_BadNumber rfl rfl rfl (fun f cd cc => arg_str) (fun _ _ _ _ => rfl) (fun _ _ _ _ => rfl) (fun _ _ _ _ => rfl) (fun _ _ _ _ => rfl)
theorem bndI_BadNumber (T : Tx a K mg w) : Binds K a.d_BadNumber_init ["self", "number"] [] := T.su_BadNumber.binds fun _ _ _ _ _ _ _ us hl => match us, hl with | [_, _], _ => rfl
theorem scI_BadCount : SupScope "count" (defScope s_BadCount_init) := ⟨rfl, rfl, rfl, rfl, rfl, by decide +kernel, rfl, rfl, by decide +kernel, by decide +kernel⟩
theorem okI_BadCount (T : Tx a K mg w) : FnOk P w K mg base (L2N.CX P w) 1 a.f_BadCount_init a.d_BadCount_init ["self", "count"] (spS a.C_BadCount "count" okAny) :=
  okSup T.su_BadCount T.ox_BadCount scI_BadCount rfl rfl rfl (fun f cd cc => arg_str) (fun _ _ _ _ => rfl) (fun _ _ _ _ => rfl) (fun _ _ _ _ => rfl) (fun _ _ _ _ => rfl)
theorem bndI_BadCount (T : Tx a K mg w) : Binds K a.d_BadCount_init ["self", "count"] [] := T.su_BadCount.binds fun _ _ _ _ _ _ _ us hl => match us, hl with | [_, _], _ => rfl

end
end My

set_option Elab.async false
set_option maxRecDepth 100000
set_option maxHeartbeats 4000000
set_option linter.all false
namespace My
open PySem L2 Own
section
variable {P : Program} [PO P] {w : World} {K : PySem.W.Frag} {mg : Str → Option Value} {base : Heap} {a : Adr}
local macro_rules | `(tactic| walk_at "gv") => `(tactic| first
  | (with_reducible first | exact GvE.int | exact GvE.str | exact GvE.bl | exact GvE.non | exact GvE.glob | exact GvE.ty | exact GvA.nil | exact GvT.yes | exact GvO.no | exact GvE.dnew)
  | ((with_reducible apply GvE.var); rfl)
  | ((with_reducible apply GvA.cons) <;> walk_at "gv")
  | ((with_reducible apply GvE.op) <;> walk_at "gv")
  | ((with_reducible first | apply rl_add | apply rl_sub | apply rl_lt | apply rl_le | apply rl_gt | apply rl_ge | apply rl_eqI | apply rl_eqS | apply rl_neI | apply rl_neS | apply rl_neg | apply rl_slL | apply rl_slT | apply rl_inL | apply rl_ninL | apply rl_inT | apply rl_ninT | apply rl_inS | apply rl_ninS | apply rl_isN | apply rl_notN | apply rc_abs | apply rc_max | apply rc_min | apply rc_tupL | apply rc_all | apply rc_any | apply rc_sum | apply rm_starts | apply rc_len (.inl rfl) | apply rc_len (.inr rfl) | apply rc_list (.inl rfl) | apply rc_list (.inr rfl) | apply rl_I | apply rl_cat | apply rl_catT | apply rl_catS | apply rl_ixL | apply rl_ixT | apply rl_ixS | apply rl_ixK | apply rl_slS | apply rc_lenS | apply rc_strI) <;> try first | decide | exact ⟨by decide, by decide⟩ | exact ⟨by decide, by decide, by decide⟩ | with_reducible (first | exact atI_0 | exact atI_1 | exact atI_2 | exact atI_3 | exact atI_4 | exact atI_5))
  | ((with_reducible apply GvE.cb) <;> walk_at "gv")
  | ((with_reducible apply GvE.un) <;> walk_at "gv")
  | ((with_reducible apply GvE.sl) <;> walk_at "gv")
  | ((with_reducible apply GvO.of) <;> walk_at "gv")
  | ((with_reducible apply GvE.m1) <;> walk_at "gv")
  | ((with_reducible apply GvE.m0) <;> walk_at "gv")
  | ((with_reducible apply GvE.tup) <;> walk_at "gv")
  | ((with_reducible apply GvE.lst) <;> walk_at "gv")
  | ((with_reducible apply GvT.test) <;> walk_at "gv")
  | ((with_reducible apply GvT.val) <;> walk_at "gv")
  | ((with_reducible apply GvT.not) <;> walk_at "gv")
  | ((with_reducible apply GvE.notV) <;> walk_at "gv")
  | ((with_reducible apply GvE.call) <;> walk_at "gv")
  | ((with_reducible first | apply GvT.and | apply GvT.or | apply GvE.andV | apply GvE.orV) <;> first | (intro _; walk_at "gv") | walk_at "gv")
  | decide | exact Nat.le_of_ble_eq_true rfl | skip)
local macro_rules | `(tactic| walk_at "nrm") => `(tactic| try simp only [List.set_cons_zero, List.set_cons_succ])
local macro_rules | `(tactic| walk_at "set") => `(tactic| first | ((with_reducible apply Blk.set_); focus walk_at "gv") | skip)
local macro_rules | `(tactic| walk_at "ret") => `(tactic| first | ((with_reducible apply Blk.ret); focus walk_at "gv") | skip)
local macro_rules | `(tactic| walk_at "if") => `(tactic| first | ((with_reducible apply Blk.ifS); focus walk_at "gv") | skip)
local macro_rules | `(tactic| walk_at "asg") => `(tactic| first | ((with_reducible apply Blk.asg); focus walk_at "gv") | skip)
local macro_rules | `(tactic| walk_at "setG") => `(tactic| first | ((with_reducible apply Blk.setG); focus walk_at "gv") | skip)
local macro_rules | `(tactic| walk_at "app") => `(tactic| first | (((with_reducible apply Blk.append); focus rfl); focus walk_at "gv") | skip)
local macro_rules | `(tactic| walk_at "gg") => `(tactic| first
  | (with_reducible first | exact GvG.name | exact GvG.nil)
  | ((with_reducible apply GvG.cons) <;> walk_at "gg")
  | ((with_reducible first | apply GvG.tup | apply GvG.unl) <;> walk_at "gg")
  | decide | rfl | skip)
local macro_rules | `(tactic| walk_at "ifF") => `(tactic| first | ((with_reducible apply Blk.ifF); focus ((with_reducible apply GvT.cast); focus walk_at "gv")) | skip)
local macro_rules | `(tactic| walk_at "ifT") => `(tactic| first | ((with_reducible apply Blk.ifT); focus ((with_reducible apply GvT.cast); focus walk_at "gv")) | skip)
local macro_rules | `(tactic| walk_at "expr") => `(tactic| first | ((with_reducible apply Blk.expr); focus walk_at "gv") | skip)

/-! ### _law_cell -/
def cellF (ns : List Int) (k : Int) : Int := if k < ns.length then ns.getD k.toNat 0 else (ns.foldl (fun b x => (b * 31 + x) % 1000003) 17 + 1) * (k + 3) * 7919 % 2147483629
def R_cell (ds : List D) (d : D) : Prop := ∃ (ns : List Int) (k : Int), ds = [.lst (ns.map .int), .int k] ∧ ns.length ≤ 63 ∧ 0 ≤ k ∧ k < 1000000 ∧ d = .int (cellF ns k)
theorem fold_cell (ns : List Int) : 0 ≤ ns.foldl (fun b x => (b * 31 + x) % 1000003) 17 ∧ ns.foldl (fun b x => (b * 31 + x) % 1000003) 17 < 1000003 := by
  have : ∀ (ns : List Int) (b : Int), 0 ≤ b → b < 1000003 → 0 ≤ ns.foldl (fun b x => (b * 31 + x) % 1000003) b ∧ ns.foldl (fun b x => (b * 31 + x) % 1000003) b < 1000003 := by
    intro ns
    induction ns with
    | nil => exact fun b h0 h1 => ⟨h0, h1⟩
    | cons x ns ih => exact fun b _ _ => ih _ (Int.emod_nonneg _ (by decide)) (Int.emod_lt_of_pos _ (by decide))
  exact this ns 17 (by decide) (by decide)
theorem ok_l_cell (T : Tx a K mg w) : FnOk P w K mg base CX0 1 a.f_l_cell a.d_l_cell ps_l_cell (spD K false R_cell) := by
  refine okP T.F_l_cell sc_l_cell (fun ds d h => ?_) (fun cdv A outer s H X hr => ?_)
  · obtain ⟨ns, k, rfl, _⟩ := h
    rfl
  · have hu := hu_of hr
    refine ⟨_, (pss_cons (ps_if (pt_cmpR op_lt (pv 1) (pe_callB call_len_seq (by rfl) T.no_len (by decide +kernel) (pa_cons (pv 0) pa_nil)) (nomark _)) (pss_one (ps_ret (pe_ix ix_list (pv 0) (pv 1) (fun _ _ => rfl)))) pss_nil)
      (pss_cons (ps_set (i := 2) sc_l_cell.nd rfl (by first | exact Or.inl rfl | exact Or.inr rfl) pe_int)
      (pss_cons (ps_for PassesOwn.never rfl (pi_list (pv 0)) (pg_name (i := 3) sc_l_cell.nd rfl (by first | exact Or.inl rfl | exact Or.inr rfl))
        (pss_one (ps_set (i := 2) sc_l_cell.nd rfl (by first | exact Or.inl rfl | exact Or.inr rfl) (pe_op op_mod (pe_op op_add (pe_op op_mulW (pv 2) pe_int) (pv 3)) pe_int))))
      (pss_one (ps_ret (pe_op op_mod (pe_op op_mulW (pe_op op_mulW (pe_op op_add (pv 2) pe_int) (pe_op op_add (pv 1) pe_int)) pe_int) pe_int)))))), ?_⟩
    try simp only [cxK, Cx.nox, Cx.wish]
    rintro F ds d ⟨ns, k, rfl, hn, h0, h1, rfl⟩ -
    show Blk K F [.imm (.lst (ns.map .int)), .imm (.int k), .un, .un] _ _
    refine Blk.seqN (N := fun r => r = [.imm (.lst (ns.map .int)), .imm (.int k), .un, .un] ∧ ¬ k < ns.length) ?_ ?_
    · walk_at "if"
      · intro h
        have h := of_decide_eq_true h
        rw [List.length_map] at h
        walk_at "ret"
        · exact atI_mapD 0 h0 h
        · show D.int _ = D.int _
          rw [cellF, if_pos h]
      · intro h
        have h := of_decide_eq_false h
        rw [List.length_map] at h
        exact .nx ⟨rfl, h⟩
    · rintro _ ⟨rfl, hk⟩
      walk_at "set"
      walk_at "nrm"
      refine Blk.seqN (N := fun r => ∃ v, r = [.imm (.lst (ns.map .int)), .imm (.int k), .imm (.int (ns.foldl (fun b x => (b * 31 + x) % 1000003) 17)), v] ∧ ¬ k < ns.length) ?_ ?_
      · refine Blk.for_ (GvI.lst (.var rfl)) (fun i r => ∃ v, r = [.imm (.lst (ns.map .int)), .imm (.int k), .imm (.int ((ns.take i).foldl (fun b x => (b * 31 + x) % 1000003) 17)), v]) ⟨.un, rfl⟩ ?_ ?_
        · rintro i d ρ1 hd ⟨v, rfl⟩
          obtain ⟨x, hx, rfl⟩ := map_at hd
          have hb := fold_cell (ns.take i)
          refine ⟨_, _, .name, ?_⟩
          walk_at "nrm"
          apply Blk.asg
          focus walk_at "gv"
          · exact mulW64 (by omega) (by decide)
          · exact ⟨_, by rw [foldl_take hx]; rfl⟩
        · rintro ρ1 ⟨v, rfl⟩
          rw [List.length_map, List.take_length]
          exact ⟨_, rfl, hk⟩
      · rintro ρ1 ⟨v, rfl, hk⟩
        have hb := fold_cell ns
        walk_at "ret"
        · exact mulW64 (by omega) (by omega)
        · exact mulWn 128 64 (mul_lt 64 64 (by omega) (by omega)) (by decide) (by decide) (by decide) (by decide)
        · show D.int _ = D.int _
          rw [cellF, if_neg hk]

end
end My

set_option Elab.async false
set_option maxRecDepth 100000
set_option maxHeartbeats 4000000
set_option linter.all false
namespace My
open PySem L2 Own
section
variable {P : Program} [PO P] {w : World} {K : PySem.W.Frag} {mg : Str → Option Value} {base : Heap} {a : Adr}
local macro_rules | `(tactic| walk_at "gv") => `(tactic| first
  | (with_reducible first | exact GvE.int | exact GvE.str | exact GvE.bl | exact GvE.non | exact GvE.glob | exact GvE.ty | exact GvA.nil | exact GvT.yes | exact GvO.no | exact GvE.dnew)
  | ((with_reducible apply GvE.var); rfl)
  | ((with_reducible apply GvA.cons) <;> walk_at "gv")
  | ((with_reducible apply GvE.op) <;> walk_at "gv")
  | ((with_reducible first | apply rl_add | apply rl_sub | apply rl_lt | apply rl_le | apply rl_gt | apply rl_ge | apply rl_eqI | apply rl_eqS | apply rl_neI | apply rl_neS | apply rl_neg | apply rl_slL | apply rl_slT | apply rl_inL | apply rl_ninL | apply rl_inT | apply rl_ninT | apply rl_inS | apply rl_ninS | apply rl_isN | apply rl_notN | apply rc_abs | apply rc_max | apply rc_min | apply rc_tupL | apply rc_all | apply rc_any | apply rc_sum | apply rm_starts | apply rc_len (.inl rfl) | apply rc_len (.inr rfl) | apply rc_list (.inl rfl) | apply rc_list (.inr rfl) | apply rl_I | apply rl_cat | apply rl_catT | apply rl_catS | apply rl_ixL | apply rl_ixT | apply rl_ixS | apply rl_ixK | apply rl_slS | apply rc_lenS | apply rc_strI) <;> try first | decide | exact ⟨by decide, by decide⟩ | exact ⟨by decide, by decide, by decide⟩ | with_reducible (first | exact atI_0 | exact atI_1 | exact atI_2 | exact atI_3 | exact atI_4 | exact atI_5))
  | ((with_reducible apply GvE.cb) <;> walk_at "gv")
  | ((with_reducible apply GvE.un) <;> walk_at "gv")
  | ((with_reducible apply GvE.sl) <;> walk_at "gv")
  | ((with_reducible apply GvO.of) <;> walk_at "gv")
  | ((with_reducible apply GvE.m1) <;> walk_at "gv")
  | ((with_reducible apply GvE.m0) <;> walk_at "gv")
  | ((with_reducible apply GvE.tup) <;> walk_at "gv")
  | ((with_reducible apply GvE.lst) <;> walk_at "gv")
  | ((with_reducible apply GvT.test) <;> walk_at "gv")
  | ((with_reducible apply GvT.val) <;> walk_at "gv")
  | ((with_reducible apply GvT.not) <;> walk_at "gv")
  | ((with_reducible apply GvE.notV) <;> walk_at "gv")
  | ((with_reducible apply GvE.call) <;> walk_at "gv")
  | ((with_reducible first | apply GvT.and | apply GvT.or | apply GvE.andV | apply GvE.orV) <;> first | (intro _; walk_at "gv") | walk_at "gv")
  | decide | exact Nat.le_of_ble_eq_true rfl | skip)
local macro_rules | `(tactic| walk_at "nrm") => `(tactic| try simp only [List.set_cons_zero, List.set_cons_succ])
local macro_rules | `(tactic| walk_at "set") => `(tactic| first | ((with_reducible apply Blk.set_); focus walk_at "gv") | skip)
local macro_rules | `(tactic| walk_at "ret") => `(tactic| first | ((with_reducible apply Blk.ret); focus walk_at "gv") | skip)
local macro_rules | `(tactic| walk_at "if") => `(tactic| first | ((with_reducible apply Blk.ifS); focus walk_at "gv") | skip)
local macro_rules | `(tactic| walk_at "asg") => `(tactic| first | ((with_reducible apply Blk.asg); focus walk_at "gv") | skip)
local macro_rules | `(tactic| walk_at "setG") => `(tactic| first | ((with_reducible apply Blk.setG); focus walk_at "gv") | skip)
local macro_rules | `(tactic| walk_at "app") => `(tactic| first | (((with_reducible apply Blk.append); focus rfl); focus walk_at "gv") | skip)
local macro_rules | `(tactic| walk_at "gg") => `(tactic| first
  | (with_reducible first | exact GvG.name | exact GvG.nil)
  | ((with_reducible apply GvG.cons) <;> walk_at "gg")
  | ((with_reducible first | apply GvG.tup | apply GvG.unl) <;> walk_at "gg")
  | decide | rfl | skip)
local macro_rules | `(tactic| walk_at "ifF") => `(tactic| first | ((with_reducible apply Blk.ifF); focus ((with_reducible apply GvT.cast); focus walk_at "gv")) | skip)
local macro_rules | `(tactic| walk_at "ifT") => `(tactic| first | ((with_reducible apply Blk.ifT); focus ((with_reducible apply GvT.cast); focus walk_at "gv")) | skip)
local macro_rules | `(tactic| walk_at "expr") => `(tactic| first | ((with_reducible apply Blk.expr); focus walk_at "gv") | skip)

/-! ### _law_digits -/
def digA : Int → List Int → List Int
  | _, [] => []
  | r, z :: zs => r % z :: digA (r.fdiv z) zs
theorem digA_snoc {z : Int} : ∀ {zs : List Int} {r : Int}, digA r (zs ++ [z]) = digA r zs ++ [(zs.foldl Int.fdiv r) % z]
  | [], r => rfl
  | y :: zs, r => by
    rw [List.cons_append, digA, digA_snoc]
    rfl
def lcg (one : Int) : Nat → Int
  | 0 => one
  | j + 1 => (lcg one j * 48271 + 10007 * ((j : Int) + 1)) % 2147483629
def two (one : Int) (j : Nat) : Int := (lcg one (j + 1) * lcg one (j + 1) + 69621 * lcg one (j + 1) + (j : Int)) % 2147483563
def digB (one : Int) (szs : List Int) : List Int := (List.range szs.length).map fun j => (two one j).fdiv 11 % szs.getD j 0
def digF (ns : List Int) (k : Int) (szs : List Int) : List Int := if 1000000000000000000 ≤ cellF ns k then digA (cellF ns k - 1000000000000000000) szs else digB (cellF ns k % 2147483647) szs
theorem digA_len : ∀ {zs : List Int} {r : Int}, (digA r zs).length = zs.length
  | [], _ => rfl
  | _ :: zs, r => by rw [digA, List.length_cons, List.length_cons, digA_len]
theorem digF_len {ns : List Int} {k : Int} {szs : List Int} : (digF ns k szs).length = szs.length := by
  unfold digF digB
  split
  · exact digA_len
  · simp
theorem digA_in : ∀ {zs : List Int} {r : Int}, (∀ z ∈ zs, 0 < z) → Drawn (digA r zs) zs
  | [], _, _ => .nil
  | z :: zs, r, h => .cons ⟨Int.emod_nonneg _ (Int.ne_of_gt (h z List.mem_cons_self)), Int.emod_lt_of_pos _ (h z List.mem_cons_self)⟩ (digA_in fun y hy => h y (List.mem_cons_of_mem _ hy))
theorem digF_in {ns : List Int} {k : Int} {szs : List Int} (h : ∀ z ∈ szs, 0 < z) : Drawn (digF ns k szs) szs := by
  unfold digF
  split
  · exact digA_in h
  · refine paired_of (by simp [digB]) fun i x z hx hz => ?_
    have hp := h z (List.mem_of_getElem? hz)
    unfold digB at hx
    obtain ⟨j, hj, rfl⟩ := Own.map_at' hx
    have hi := (List.getElem?_eq_some_iff.mp hz).1
    rw [List.getElem?_range hi] at hj
    cases hj
    rw [List.getD_eq_getElem?_getD, hz]
    exact ⟨Int.emod_nonneg _ (Int.ne_of_gt hp), Int.emod_lt_of_pos _ hp⟩
theorem lcg_in {one : Int} (h0 : 0 ≤ one) (h1 : one < 2147483647) : ∀ j, 0 ≤ lcg one j ∧ lcg one j < 2147483647
  | 0 => ⟨h0, h1⟩
  | j + 1 => ⟨Int.emod_nonneg _ (by decide), Int.lt_trans (Int.emod_lt_of_pos _ (by decide)) (by decide)⟩
def R_digits (ds : List D) (d : D) : Prop := ∃ (ns : List Int) (k : Int) (szs : List Int), ds = [.lst (ns.map .int), .int k, .lst (szs.map .int)] ∧ ns.length ≤ 63 ∧ 0 ≤ k ∧ k < 1000000 ∧ szs.length ≤ 63 ∧ (∀ z ∈ szs, 0 < z ∧ z < 4611686018427387904) ∧ d = .lst ((digF ns k szs).map .int)
theorem ok_l_digits (T : Tx a K mg w) : FnOk P w K mg base CX0 2 a.f_l_digits a.d_l_digits ps_l_digits (spD K false R_digits) := by
  refine okP T.F_l_digits sc_l_digits (fun ds d h => ?_) (fun cdv A outer s H X hr => ?_)
  · obtain ⟨ns, k, szs, rfl, _⟩ := h
    rfl
  · have hu := hu_of hr
    have G_l_cell := ok_l_cell (P := P) (w := w) (base := base) T
    have B_l_cell := bnd_l_cell T
    have hr_l_cell : Room 1 _ := hr.mono (by decide)
    refine ⟨_, (pss_cons (ps_set (i := 3) sc_l_digits.nd rfl (by first | exact Or.inl rfl | exact Or.inr rfl) (pe_call G_l_cell hr_l_cell (by rfl) T.mg_l_cell T.F_l_cell.kp B_l_cell .nil pass0 (pa_cons (pv 0) (pa_cons (pv 1) pa_nil))))
      (pss_cons (ps_set (i := 4) sc_l_digits.nd rfl (by first | exact Or.inl rfl | exact Or.inr rfl) (pe_lst pa_nil))
      (pss_cons (ps_if (pt_cmpR op_ge (pv 3) (pe_op op_pow pe_int pe_int) (nomark _)) (pss_cons (ps_set (i := 5) sc_l_digits.nd rfl (by first | exact Or.inl rfl | exact Or.inr rfl) (pe_op op_sub (pv 3) (pe_op op_pow pe_int pe_int)))
        (pss_cons (ps_for PassesOwn.never rfl (pi_list (pv 2)) (pg_name (i := 6) sc_l_digits.nd rfl (by first | exact Or.inl rfl | exact Or.inr rfl))
          (pss_cons (ps_expr (pe_bm PySem.F.plainAttrs_list PySem.F.slot_list_append PySem.F.type_list_append mt_append (pv 4) (pa_cons (pe_op op_mod (pv 5) (pv 6)) pa_nil)))
          (pss_one (ps_set (i := 5) sc_l_digits.nd rfl (by first | exact Or.inl rfl | exact Or.inr rfl) (pe_op op_fdivA (pv 5) (pv 6))))))
        (pss_one (ps_ret (pv 4))))) pss_nil)
      (pss_cons (ps_set (i := 7) sc_l_digits.nd rfl (by first | exact Or.inl rfl | exact Or.inr rfl) (pe_op op_mod (pv 3) pe_int))
      (pss_cons (ps_for PassesOwn.never rfl (pi_range1 rfl T.no_range (pa_cons (pe_callB call_len_seq (by rfl) T.no_len (by decide +kernel) (pa_cons (pv 2) pa_nil)) pa_nil)) (pg_name (i := 8) sc_l_digits.nd rfl (by first | exact Or.inl rfl | exact Or.inr rfl))
        (pss_cons (ps_set (i := 7) sc_l_digits.nd rfl (by first | exact Or.inl rfl | exact Or.inr rfl) (pe_op op_mod (pe_op op_add (pe_op op_mulW (pv 7) pe_int) (pe_op op_mulW pe_int (pe_op op_add (pv 8) pe_int))) pe_int))
        (pss_cons (ps_set (i := 9) sc_l_digits.nd rfl (by first | exact Or.inl rfl | exact Or.inr rfl) (pe_op op_mod (pe_op op_add (pe_op op_add (pe_op op_mulW (pv 7) (pv 7)) (pe_op op_mulW pe_int (pv 7))) (pv 8)) pe_int))
        (pss_one (ps_expr (pe_bm PySem.F.plainAttrs_list PySem.F.slot_list_append PySem.F.type_list_append mt_append (pv 4) (pa_cons (pe_op op_mod (pe_op op_fdivA (pv 9) pe_int) (pe_ix ix_list (pv 2) (pv 8) (fun _ _ => rfl))) pa_nil)))))))
      (pss_one (ps_ret (pv 4)))))))), ?_⟩
    try simp only [cxK, Cx.nox, Cx.wish]
    rintro F ds d ⟨ns, k, szs, rfl, hn, h0, h1, hz, hzs, rfl⟩ -
    show Blk K F [.imm (.lst (ns.map .int)), .imm (.int k), .imm (.lst (szs.map .int)), .un, .un, .un, .un, .un, .un, .un] _ _
    walk_at "set"
    · exact ⟨ns, k, rfl, hn, h0, h1, rfl⟩
    · exact fun z => by cases z
    walk_at "nrm"
    refine Blk.seq (Blk.newL .nil (by decide) rfl) ?_
    walk_at "nrm"
    have hr63 : ∀ {x y : Int}, x.natAbs < 2 ^ 64 → y.natAbs < 2 ^ 64 → CMulW x y := fun a b => mulW64 a b
    refine Blk.seqN (N := fun r => ¬ 1000000000000000000 ≤ cellF ns k ∧ r = [.imm (.lst (ns.map .int)), .imm (.int k), .imm (.lst (szs.map .int)), .imm (.int (cellF ns k)), .own (resL K []), .un, .un, .un, .un, .un]) ?_ ?_
    · walk_at "if"
      · intro h
        have h : (1000000000000000000 : Int) ≤ cellF ns k := of_decide_eq_true h
        walk_at "set"
        walk_at "nrm"
        refine Blk.seqN (N := fun r => ∃ v u, r = [.imm (.lst (ns.map .int)), .imm (.int k), .imm (.lst (szs.map .int)), .imm (.int (cellF ns k)), .own (resL K ((digF ns k szs).map .int)), v, u, .un, .un, .un]) ?_ ?_
        · refine Blk.for_ (GvI.lst (.var rfl)) (fun i r => ∃ u, r = [.imm (.lst (ns.map .int)), .imm (.int k), .imm (.lst (szs.map .int)), .imm (.int (cellF ns k)), .own (resL K ((digA (cellF ns k - 1000000000000000000) (szs.take i)).map .int)), .imm (.int ((szs.take i).foldl Int.fdiv (cellF ns k - 1000000000000000000))), u, .un, .un, .un]) ⟨_, rfl⟩ ?_ ?_
          · rintro i d ρ1 hd ⟨u, rfl⟩
            obtain ⟨z, hz, rfl⟩ := Own.map_at hd
            have hp := hzs z (List.mem_of_getElem? hz)
            refine ⟨_, _, .name, ?_⟩
            walk_at "nrm"
            refine Blk.seq (by
              walk_at "app"
              · exact hp.1
              · rw [List.length_map, digA_len, List.length_take]
                omega
              · exact rfl) ?_
            walk_at "nrm"
            walk_at "asg"
            · exact divA_of 62 (by omega) (by omega) (by decide) (by decide)
            · apply Exists.intro
              walk_at "nrm"
              rw [take_snoc hz, digA_snoc, List.foldl_append, List.map_append]
              rfl
          · rintro ρ1 ⟨u, rfl⟩
            rw [List.length_map, List.take_length, digF, if_pos h]
            exact ⟨_, _, rfl⟩
        · rintro _ ⟨v, u, rfl⟩
          refine Blk.freeL (i := 4) rfl ?_
          walk_at "ret"
          exact rfl
      · intro h
        exact .nx ⟨of_decide_eq_false h, rfl⟩
    · rintro _ ⟨h, rfl⟩
      walk_at "set"
      walk_at "nrm"
      have o0 : 0 ≤ cellF ns k % 2147483647 := Int.emod_nonneg _ (by decide)
      have o1 : cellF ns k % 2147483647 < 2147483647 := Int.emod_lt_of_pos _ (by decide)
      generalize hone : cellF ns k % 2147483647 = one at o0 o1
      refine Blk.seqN (N := fun r => ∃ v7 v8 v9, r = [.imm (.lst (ns.map .int)), .imm (.int k), .imm (.lst (szs.map .int)), .imm (.int (cellF ns k)), .own (resL K ((digF ns k szs).map .int)), .un, .un, v7, v8, v9]) ?_ ?_
      · refine Blk.for_ (GvI.range1 (j := szs.length) (by
            have : (szs.length : Int) = ((szs.map D.int).length : Nat) := by rw [List.length_map]
            rw [this]
            walk_at "gv") (by omega) (by omega)) (fun i r => ∃ v8 v9, r = [.imm (.lst (ns.map .int)), .imm (.int k), .imm (.lst (szs.map .int)), .imm (.int (cellF ns k)), .own (resL K (((List.range i).map fun j => (two one j).fdiv 11 % szs.getD j 0).map .int)), .un, .un, .imm (.int (lcg one i)), v8, v9]) ⟨_, _, rfl⟩ ?_ ?_
        · rintro i d ρ1 hd ⟨v8, v9, rfl⟩
          obtain ⟨hi, rfl⟩ := ups_get hd
          have hi : i < szs.length := by simpa using hi
          refine ⟨_, _, .name, ?_⟩
          walk_at "nrm"
          have hl := lcg_in o0 o1 i
          have hl2 := lcg_in o0 o1 (i + 1)
          rw [Int.zero_add]
          walk_at "set"
          · exact mulW64 (by omega) (by decide)
          · exact mulW64 (by decide) (by omega)
          walk_at "nrm"
          show Blk K F [_, _, _, _, _, _, _, .imm (.int (lcg one (i + 1))), _, _] _ _
          walk_at "set"
          · exact mulW64 (by omega) (by omega)
          · exact mulW64 (by decide) (by omega)
          walk_at "nrm"
          show Blk K F [_, _, _, _, _, _, _, _, _, .imm (.int (two one i))] _ _
          walk_at "app"
          · exact atI_mapD (xs := szs) 0 (by omega) (by omega)
          · exact (hzs _ (by rw [List.getD_eq_getElem?_getD, Int.toNat_natCast]; simp [hi])).1
          · simp
            omega
          · apply Exists.intro
            apply Exists.intro
            walk_at "nrm"
            rw [List.range_succ, List.map_append, List.map_append]
            rfl
        · rintro ρ1 ⟨v8, v9, rfl⟩
          rw [GvI.ups_len, Int.toNat_natCast, digF, if_neg h, digB, hone]
          exact ⟨_, _, _, rfl⟩
      · rintro _ ⟨v7, v8, v9, rfl⟩
        refine Blk.freeL (i := 4) rfl ?_
        walk_at "ret"
        exact rfl

end
end My

set_option Elab.async false
set_option maxRecDepth 100000
set_option maxHeartbeats 4000000
set_option linter.all false
namespace My
open PySem L2 Own
section
variable {P : Program} [PO P] {w : World} {K : PySem.W.Frag} {mg : Str → Option Value} {base : Heap} {a : Adr}
local macro_rules | `(tactic| walk_at "gv") => `(tactic| first
  | (with_reducible first | exact GvE.int | exact GvE.str | exact GvE.bl | exact GvE.non | exact GvE.glob | exact GvE.ty | exact GvA.nil | exact GvT.yes | exact GvO.no | exact GvE.dnew)
  | ((with_reducible apply GvE.var); rfl)
  | ((with_reducible apply GvA.cons) <;> walk_at "gv")
  | ((with_reducible apply GvE.op) <;> walk_at "gv")
  | ((with_reducible first | apply rl_add | apply rl_sub | apply rl_lt | apply rl_le | apply rl_gt | apply rl_ge | apply rl_eqI | apply rl_eqS | apply rl_neI | apply rl_neS | apply rl_neg | apply rl_slL | apply rl_slT | apply rl_inL | apply rl_ninL | apply rl_inT | apply rl_ninT | apply rl_inS | apply rl_ninS | apply rl_isN | apply rl_notN | apply rc_abs | apply rc_max | apply rc_min | apply rc_tupL | apply rc_all | apply rc_any | apply rc_sum | apply rm_starts | apply rc_len (.inl rfl) | apply rc_len (.inr rfl) | apply rc_list (.inl rfl) | apply rc_list (.inr rfl) | apply rl_I | apply rl_cat | apply rl_catT | apply rl_catS | apply rl_ixL | apply rl_ixT | apply rl_ixS | apply rl_ixK | apply rl_slS | apply rc_lenS | apply rc_strI) <;> try first | decide | exact ⟨by decide, by decide⟩ | exact ⟨by decide, by decide, by decide⟩ | with_reducible (first | exact atI_0 | exact atI_1 | exact atI_2 | exact atI_3 | exact atI_4 | exact atI_5))
  | ((with_reducible apply GvE.cb) <;> walk_at "gv")
  | ((with_reducible apply GvE.un) <;> walk_at "gv")
  | ((with_reducible apply GvE.sl) <;> walk_at "gv")
  | ((with_reducible apply GvO.of) <;> walk_at "gv")
  | ((with_reducible apply GvE.m1) <;> walk_at "gv")
  | ((with_reducible apply GvE.m0) <;> walk_at "gv")
  | ((with_reducible apply GvE.tup) <;> walk_at "gv")
  | ((with_reducible apply GvE.lst) <;> walk_at "gv")
  | ((with_reducible apply GvT.test) <;> walk_at "gv")
  | ((with_reducible apply GvT.val) <;> walk_at "gv")
  | ((with_reducible apply GvT.not) <;> walk_at "gv")
  | ((with_reducible apply GvE.notV) <;> walk_at "gv")
  | ((with_reducible apply GvE.call) <;> walk_at "gv")
  | ((with_reducible first | apply GvT.and | apply GvT.or | apply GvE.andV | apply GvE.orV) <;> first | (intro _; walk_at "gv") | walk_at "gv")
  | decide | exact Nat.le_of_ble_eq_true rfl | skip)
local macro_rules | `(tactic| walk_at "nrm") => `(tactic| try simp only [List.set_cons_zero, List.set_cons_succ])
local macro_rules | `(tactic| walk_at "set") => `(tactic| first | ((with_reducible apply Blk.set_); focus walk_at "gv") | skip)
local macro_rules | `(tactic| walk_at "ret") => `(tactic| first | ((with_reducible apply Blk.ret); focus walk_at "gv") | skip)
local macro_rules | `(tactic| walk_at "if") => `(tactic| first | ((with_reducible apply Blk.ifS); focus walk_at "gv") | skip)
local macro_rules | `(tactic| walk_at "asg") => `(tactic| first | ((with_reducible apply Blk.asg); focus walk_at "gv") | skip)
local macro_rules | `(tactic| walk_at "setG") => `(tactic| first | ((with_reducible apply Blk.setG); focus walk_at "gv") | skip)
local macro_rules | `(tactic| walk_at "app") => `(tactic| first | (((with_reducible apply Blk.append); focus rfl); focus walk_at "gv") | skip)
local macro_rules | `(tactic| walk_at "gg") => `(tactic| first
  | (with_reducible first | exact GvG.name | exact GvG.nil)
  | ((with_reducible apply GvG.cons) <;> walk_at "gg")
  | ((with_reducible first | apply GvG.tup | apply GvG.unl) <;> walk_at "gg")
  | decide | rfl | skip)
local macro_rules | `(tactic| walk_at "ifF") => `(tactic| first | ((with_reducible apply Blk.ifF); focus ((with_reducible apply GvT.cast); focus walk_at "gv")) | skip)
local macro_rules | `(tactic| walk_at "ifT") => `(tactic| first | ((with_reducible apply Blk.ifT); focus ((with_reducible apply GvT.cast); focus walk_at "gv")) | skip)
local macro_rules | `(tactic| walk_at "expr") => `(tactic| first | ((with_reducible apply Blk.expr); focus walk_at "gv") | skip)

/-! ### _law_names -/
def let1 (k : Int) : Str := ⟨#[97 + (k % 26).toNat]⟩
theorem let1_at {k : Int} (i0 : 0 ≤ k) (i1 : k < 26) : atI abc.cps.toList k = some (97 + (k % 26).toNat) := by
  rw [(abc_at i0 i1).1, Int.emod_eq_of_lt i0 i1]
theorem let1_atm {k : Int} : atI abc.cps.toList (k % 26) = some (97 + (k % 26).toNat) := (abc_at (Int.emod_nonneg _ (by decide)) (Int.emod_lt_of_pos _ (by decide))).1
theorem let1_let {k : Int} : Let (let1 k) 1 := Let.one (abc_at (Int.emod_nonneg _ (by decide)) (Int.emod_lt_of_pos _ (by decide))).2
def restL (one two size : Int) (j : Nat) : List Str := (List.range size.toNat).map fun i => let1 (one + (0 + (i : Nat)) * two + 3 * (0 + (j : Nat)))
def restF (one two size : Int) (j : Nat) : Str := PySem.Txt.join (Str.ofString "") (restL one two size j)
def nameF (one two size place : Int) (j : Nat) : Str := (cutS (restF one two size j) none (some place) ++ let1 (one + 7 * (0 + (j : Nat)) + 11)) ++ cutS (restF one two size j) (some place) none
def zlt (j c : Nat) : Str := (Str.ofString "z" ++ let1 (0 + (j : Nat))) ++ (⟨#[c]⟩ : Str)
def spareL (zs : List Str) (j : Nat) : List Str := ((tails.cps.toList.filter fun c => !decide (zlt j c ∈ zs)).map (zlt j))
def nextF (zs : List Str) (one two size place : Int) (j : Nat) : Str := if nameF one two size place j ∈ zs then (spareL zs j).getD 0 Str.empty else nameF one two size place j
def nextD (zs : List Str) (ds : List Int) (j : Nat) : Str := nextF zs (ds.getD 0 0) (ds.getD 1 0) (ds.getD 2 0) (ds.getD 3 0) j
def namesF (ns : List Int) (k : Int) : Nat → List Str
  | 0 => []
  | j + 1 => namesF ns k j ++ [nextD (namesF ns k j) (digF ns (k + (0 + (j : Nat)) % 2) [26, 26, 6, 5]) j]
/-- names as a world may have them -/
structure Good (ns : List Str) : Prop where
  each : ∀ n ∈ ns, ∃ k, Let n k ∧ 1 ≤ k ∧ k ≤ 6
  nd : ns.Nodup
theorem restL_let {one two size : Int} {j : Nat} : ∀ y ∈ restL one two size j, Let y 1 := fun y hy => by
  obtain ⟨i, _, rfl⟩ := List.mem_map.mp hy
  exact let1_let
theorem restL_len {one two size : Int} {j : Nat} : (restL one two size j).length = size.toNat := by simp [restL]
theorem restF_let {one two size : Int} {j : Nat} : Let (restF one two size j) size.toNat := by
  have := join_let _ (restL_let (one := one) (two := two) (size := size) (j := j))
  rw [restL_len] at this
  unfold restF
  rw [show Str.ofString "" = Str.empty by decide +kernel]
  exact this
theorem nameF_let {one two size place : Int} {j : Nat} (p0 : 0 ≤ place) : Let (nameF one two size place j) (size.toNat + 1) := by
  have hc := (restF_let (one := one) (two := two) (size := size) (j := j)).cut place.toNat
  have hpl : ((place.toNat : Nat) : Int) = place := by omega
  rw [hpl] at hc
  have := (hc.1.app (let1_let (k := one + 7 * (0 + (j : Nat)) + 11))).app hc.2
  rw [show min place.toNat size.toNat + 1 + (size.toNat - min place.toNat size.toNat) = size.toNat + 1 by omega] at this
  exact this
theorem zlt_eq {j c : Nat} (hj : j < 26) : zlt j c = ⟨#[122, 97 + j, c]⟩ := by
  unfold zlt let1
  rw [show ((0 + (j : Nat) : Int) % 26).toNat = j by omega]
  exact cand_app _ _
theorem spare_ok {zs : List Str} {j : Nat} (hz : zs.length < 12) (hj : j < 26) : 0 < (spareL zs j).length ∧ ∀ y ∈ spareL zs j, Let y 3 ∧ y ∉ zs := by
  constructor
  · refine Nat.pos_of_ne_zero fun e => ?_
    have e := List.length_eq_zero_iff.mp e
    refine cand_free (c := 97 + j) hz fun t ht => ?_
    have hm : 105 + t ∈ tails.cps.toList := by
      rw [tails_list]
      exact List.mem_range'_1.mpr ⟨by omega, by omega⟩
    have hq : zlt j (105 + t) = cand (97 + j) t := zlt_eq hj
    refine Classical.byContradiction fun h => ?_
    have : zlt j (105 + t) ∈ spareL zs j := List.mem_map.mpr ⟨105 + t, List.mem_filter.mpr ⟨hm, by rw [hq]; simpa using h⟩, rfl⟩
    rw [e] at this
    cases this
  · intro y hy
    obtain ⟨c, hc, rfl⟩ := List.mem_map.mp hy
    obtain ⟨h1, h2⟩ := List.mem_filter.mp hc
    rw [tails_list, List.mem_range'_1] at h1
    refine ⟨?_, by simpa using h2⟩
    rw [zlt_eq hj]
    have := cand_let (c := 97 + j) (t := c - 105) (by unfold Low; omega) (by omega)
    unfold cand at this
    rw [show 105 + (c - 105) = c by omega] at this
    exact this
theorem nextD_ok {zs : List Str} {ds : List Int} {j : Nat} (hz : zs.length < 12) (hj : j < 26) (hd : Drawn ds [26, 26, 6, 5]) : (∃ k, Let (nextD zs ds j) k ∧ 1 ≤ k ∧ k ≤ 6) ∧ nextD zs ds j ∉ zs := by
  obtain ⟨one, two, size, place, rfl, _, _, ⟨s0, s1⟩, ⟨p0, _⟩⟩ := drawn4 hd
  unfold nextD nextF
  simp only [List.getD_cons_zero, List.getD_cons_succ]
  split
  · obtain ⟨h1, h2⟩ := spare_ok hz hj
    have hm : (spareL zs j).getD 0 Str.empty ∈ spareL zs j := by
      rw [List.getD_eq_getElem?_getD, List.getElem?_eq_getElem h1]
      exact List.getElem_mem h1
    exact ⟨⟨3, (h2 _ hm).1, by decide, by decide⟩, (h2 _ hm).2⟩
  · rename_i h
    exact ⟨⟨_, nameF_let p0, by omega, by omega⟩, h⟩
theorem namesF_len {ns : List Int} {k : Int} : ∀ {m : Nat}, (namesF ns k m).length = m
  | 0 => rfl
  | m + 1 => by rw [namesF, List.length_append, namesF_len]; rfl
theorem namesF_good {ns : List Int} {k : Int} : ∀ {m : Nat}, m ≤ 12 → Good (namesF ns k m)
  | 0, _ => ⟨fun n h => absurd h List.not_mem_nil, List.nodup_nil⟩
  | m + 1, h => by
    have ih := namesF_good (ns := ns) (k := k) (m := m) (by omega)
    obtain ⟨h1, h2⟩ := nextD_ok (zs := namesF ns k m) (j := m) (by rw [namesF_len]; omega) (by omega) (digF_in (ns := ns) (k := k + (0 + (m : Nat)) % 2) (szs := [26, 26, 6, 5]) (by decide))
    rw [namesF]
    refine ⟨fun n hn => ?_, List.nodup_append.mpr ⟨ih.nd, by simp, fun x hx y hy e => ?_⟩⟩
    · rcases List.mem_append.mp hn with z | z
      · exact ih.each n z
      · rw [List.mem_singleton.mp z]
        exact h1
    · rw [List.mem_singleton.mp hy] at e
      exact h2 (e ▸ hx)
theorem rl_abc {F : Fr} {k : Int} : Rl2 K F rIxS (.str abc) (.int (k % 26)) (.str (let1 k)) := rl_ixS (by decide +kernel) let1_atm
theorem rl_abc' {F : Fr} {k : Int} (h0 : 0 ≤ k) (h1 : k < 26) : Rl2 K F rIxS (.str abc) (.int k) (.str (let1 k)) := rl_ixS (by decide +kernel) (let1_at h0 h1)
theorem let1_len {k : Int} : (let1 k).length = 1 := rfl
theorem z_len : (Str.ofString "z").length = 1 := by decide +kernel
theorem rest_sum {one two size : Int} {j : Nat} : ((restL one two size j).map (·.length)).sum = size.toNat := by
  have : ∀ ys : List Str, (∀ y ∈ ys, Let y 1) → (ys.map (·.length)).sum = ys.length := by
    intro ys
    induction ys with
    | nil => intro _; rfl
    | cons y ys ih =>
      intro h
      rw [List.map_cons, List.sum_cons, ih fun z hz => h z (List.mem_cons_of_mem _ hz), (h y List.mem_cons_self).len, List.length_cons]
      omega
  rw [this _ restL_let, restL_len]
def R_names (ds : List D) (d : D) : Prop := ∃ (ns : List Int) (k m : Int), ds = [.lst (ns.map .int), .int k, .int m] ∧ ns.length ≤ 63 ∧ 0 ≤ k ∧ k < 900000 ∧ 0 ≤ m ∧ m ≤ 12 ∧ d = .lst ((namesF ns k m.toNat).map .str)
theorem ok_l_names (T : Tx a K mg w) : FnOk P w K mg base CX0 3 a.f_l_names a.d_l_names ps_l_names (spD K false R_names) := by
  refine okP T.F_l_names sc_l_names (fun ds d h => ?_) (fun cdv A outer s H X hr => ?_)
  · obtain ⟨ns, k, m, rfl, _⟩ := h
    rfl
  · have hu := hu_of hr
    have G_l_digits := ok_l_digits (P := P) (w := w) (base := base) T
    have B_l_digits := bnd_l_digits T
    have hr_l_digits : Room 2 _ := hr.mono (by decide)
    refine ⟨_, (pss_cons (ps_asg (pe_tup (pa_cons (pe_lst pa_nil) (pa_cons pe_str pa_nil))) (pg_tup rfl (pgs_cons (pg_name (i := 3) sc_l_names.nd rfl (by first | exact Or.inl rfl | exact Or.inr rfl)) (pgs_cons (pg_name (i := 4) sc_l_names.nd rfl (by first | exact Or.inl rfl | exact Or.inr rfl)) pgs_nil)) (by rfl)))
      (pss_cons (ps_for PassesOwn.never rfl (pi_range1 rfl T.no_range (pa_cons (pv 2) pa_nil)) (pg_name (i := 5) sc_l_names.nd rfl (by first | exact Or.inl rfl | exact Or.inr rfl))
        (pss_cons (ps_asg (pe_call G_l_digits hr_l_digits (by rfl) T.mg_l_digits T.F_l_digits.kp B_l_digits .nil pass0 (pa_cons (pv 0) (pa_cons (pe_op op_add (pv 1) (pe_op op_mod (pv 5) pe_int)) (pa_cons (pe_lst (pa_cons pe_int (pa_cons pe_int (pa_cons pe_int (pa_cons pe_int pa_nil))))) pa_nil)))) (pg_unl rfl (pgs_cons (pg_name (i := 6) sc_l_names.nd rfl (by first | exact Or.inl rfl | exact Or.inr rfl)) (pgs_cons (pg_name (i := 7) sc_l_names.nd rfl (by first | exact Or.inl rfl | exact Or.inr rfl)) (pgs_cons (pg_name (i := 8) sc_l_names.nd rfl (by first | exact Or.inl rfl | exact Or.inr rfl)) (pgs_cons (pg_name (i := 9) sc_l_names.nd rfl (by first | exact Or.inl rfl | exact Or.inr rfl)) pgs_nil)))) (by rfl)))
        (pss_cons (ps_set (i := 10) sc_l_names.nd rfl (by first | exact Or.inl rfl | exact Or.inr rfl) (pe_joinN pe_str (pe_lc (own := [("_law_i", 12)]) rfl sc_l_names.nd (pi_range1 rfl T.no_range (pa_cons (pv 8) pa_nil)) (blkOk_by (own := [("_law_i", 12)]) (N := N_l_names) (sc := defScope s_l_names) (by decide +kernel)) (fun _ _ _ _ _ => (pg_name (i := 12) sc_l_names.nd rfl (Or.inl rfl))) (fun _ _ _ _ _ => pts_nil) (fun _ _ _ _ _ => (pe_ix ix_str (pv 4) (pe_op op_mod (pe_op op_add (pe_op op_add (pv 6) (pe_op op_mulW (pv 12) (pv 7))) (pe_op op_mulW pe_int (pv 5))) pe_int) (fun _ _ => rfl))))))
        (pss_cons (ps_set (i := 11) sc_l_names.nd rfl (by first | exact Or.inl rfl | exact Or.inr rfl) (pe_op op_add_str (pe_op op_add_str (pe_slice sl_str (pv 10) po_none (po_some (pv 9))) (pe_ix ix_str (pv 4) (pe_op op_mod (pe_op op_add (pe_op op_add (pv 6) (pe_op op_mulW pe_int (pv 5))) pe_int) pe_int) (fun _ _ => rfl))) (pe_slice sl_str (pv 10) (po_some (pv 9)) po_none)))
        (pss_cons (ps_if (pt_cmpR op_in_seq (pv 11) (pv 3) (by rfl)) (pss_one (ps_set (i := 11) sc_l_names.nd rfl (by first | exact Or.inl rfl | exact Or.inr rfl) (pe_ix ix_list (pe_lc (own := [("_law_tail", 13)]) rfl sc_l_names.nd (pi_str pe_str) (blkOk_by (own := [("_law_tail", 13)]) (N := N_l_names) (sc := defScope s_l_names) (by decide +kernel)) (fun _ _ _ _ _ => (pg_name (i := 13) sc_l_names.nd rfl (Or.inl rfl))) (fun _ _ _ _ _ => (pts_one (pt_cmpR (notInK (K := K) rfl) (pe_op op_add_str (pe_op op_add_str pe_str (pe_ix ix_str (pv 4) (pv 5) (fun _ _ => rfl))) (pv 13)) (pv 3) (by rfl)))) (fun _ _ _ _ _ => (pe_op op_add_str (pe_op op_add_str pe_str (pe_ix ix_str (pv 4) (pv 5) (fun _ _ => rfl))) (pv 13)))) pe_int (fun _ _ => rfl)))) pss_nil)
        (pss_one (ps_expr (pe_bm PySem.F.plainAttrs_list PySem.F.slot_list_append PySem.F.type_list_append mt_append (pv 3) (pa_cons (pv 11) pa_nil)))))))))
      (pss_one (ps_ret (pv 3))))), ?_⟩
    try simp only [cxK, Cx.nox, Cx.wish]
    rintro F ds d ⟨ns, k, m, rfl, hn, h0, h1, m0, m1, rfl⟩ -
    show Blk K F [.imm (.lst (ns.map .int)), .imm (.int k), .imm (.int m), .un, .un, .un, .un, .un, .un, .un, .un, .un, .un, .un] _ _
    refine Blk.seq (Blk.newL2 .nil .str (by decide) rfl) ?_
    walk_at "nrm"
    refine Blk.seqN (N := fun r => ∃ v5 v6 v7 v8 v9 v10 v11 v12 v13, r = [.imm (.lst (ns.map .int)), .imm (.int k), .imm (.int m), .own (resL K ((namesF ns k m.toNat).map .str)), .imm (.str abc), v5, v6, v7, v8, v9, v10, v11, v12, v13]) ?_ ?_
    · refine Blk.for_ (GvI.range1 (by walk_at "gv") (by omega) (by omega)) (fun i r => ∃ v5 v6 v7 v8 v9 v10 v11 v12 v13, r = [.imm (.lst (ns.map .int)), .imm (.int k), .imm (.int m), .own (resL K ((namesF ns k i).map .str)), .imm (.str abc), v5, v6, v7, v8, v9, v10, v11, v12, v13]) ⟨_, _, _, _, _, _, _, _, _, rfl⟩ ?_ ?_
      · rintro j d ρ1 hd ⟨v5, v6, v7, v8, v9, v10, v11, v12, v13, rfl⟩
        obtain ⟨hj, rfl⟩ := ups_get hd
        have hj : j < 12 := by omega
        refine ⟨_, _, .name, ?_⟩
        walk_at "nrm"
        obtain ⟨one, two, size, place, hD, ⟨o0, o1⟩, ⟨t0, t1⟩, ⟨s0, s1⟩, ⟨p0, p1⟩⟩ := drawn4 (digF_in (ns := ns) (k := k + (0 + (j : Nat)) % 2) (szs := [26, 26, 6, 5]) (by decide))
        walk_at "setG"
        · show R_digits _ (.lst [.int one, .int two, .int size, .int place])
          exact ⟨ns, _, [26, 26, 6, 5], rfl, hn, by omega, by omega, by decide, by decide, by rw [hD]; rfl⟩
        · exact fun z => by cases z
        · exact GvG.unl (GvG.cons .name (GvG.cons .name (GvG.cons .name (GvG.cons .name GvG.nil)))) rfl
        walk_at "nrm"
        have hrl := restF_let (one := one) (two := two) (size := size) (j := j)
        -- rest
        walk_at "set"
        · refine GvE.lcM (xs := List.range size.toNat) (fun i => .str (let1 (one + (0 + (i : Nat)) * two + 3 * (0 + (j : Nat))))) (GvI.range1 (by walk_at "gv") (by omega) (by omega)) (by simp; omega) (fun i hi => ⟨_, .name, by simp, ?_⟩) rfl
          have hi := List.mem_range.mp hi
          show GvE K F [_, _, _, _, _, _, _, _, _, _, _, _, .imm (.int (0 + (i : Nat))), _] _ _
          walk_at "gv"
          · exact mulW64 (by omega) (by omega)
          · exact mulW64 (by decide) (by omega)
          · exact rl_abc
        · refine rm_join (ys := restL one two size j) ?_ (.inl (by unfold restL; rw [List.map_map]; rfl))
          rw [rest_sum, show (Str.ofString "").length = 0 by decide +kernel]
          omega
        walk_at "nrm"
        show Blk K F [_, _, _, _, _, _, _, _, _, _, .imm (.str (restF one two size j)), _, _, _] _ _
        -- name
        have hpl : ((place.toNat : Nat) : Int) = place := by omega
        have hcut := hrl.cut place.toNat
        rw [hpl] at hcut
        walk_at "set"
        · rw [hrl.len]
          omega
        · exact mulW64 (by decide) (by omega)
        · exact let1_atm
        · rw [hcut.1.len]
          show _ + 1 ≤ 16777216
          omega
        · rw [hrl.len]
          omega
        · have q1 := (hcut.1.app (let1_let (k := one + 7 * (0 + (j : Nat)) + 11))).len
          have q2 := hcut.2.len
          show (cutS (restF one two size j) none (some place) ++ let1 (one + 7 * (0 + (j : Nat)) + 11)).length + (cutS (restF one two size j) (some place) none).length ≤ 16777216
          omega
        walk_at "nrm"
        show Blk K F [_, _, _, _, _, _, _, _, _, _, _, .imm (.str (nameF one two size place j)), _, _] _ _
        -- taken
        have hz : (namesF ns k j).length < 12 := by rw [namesF_len]; omega
        have hnx : nextD (namesF ns k j) (digF ns (k + (0 + (j : Nat)) % 2) [26, 26, 6, 5]) j = nextF (namesF ns k j) one two size place j := by rw [hD]; rfl
        refine Blk.seqN (N := fun r => ∃ v13, r = [.imm (.lst (ns.map .int)), .imm (.int k), .imm (.int m), .own (resL K ((namesF ns k j).map .str)), .imm (.str abc), .imm (.int (0 + (j : Nat))), .imm (.int one), .imm (.int two), .imm (.int size), .imm (.int place), .imm (.str (restF one two size j)), .imm (.str (nextF (namesF ns k j) one two size place j)), v12, v13]) ?_ ?_
        · apply Blk.ifS
          focus (apply GvT.lend 3 rfl; walk_at "nrm"; walk_at "gv")
          · intro h
            have h := of_decide_eq_true h
            have hsp := spare_ok (j := j) hz (by omega)
            apply Blk.asg
            · apply GvE.op
              · refine GvE.lcFM (xs := tails.cps.toList) (fun c => !decide (zlt j c ∈ namesF ns k j)) (fun c => .str (zlt j c)) (GvI.str .str) (by rw [tails_list]; simp) (fun c hc => ⟨_, .name, by simp, ?_, fun _ => ?_⟩)
                · apply GvT.lend 3 rfl
                  show GvT K F [_, _, _, .imm (.lst ((namesF ns k j).map .str)), _, _, _, _, _, _, _, _, _, .imm (.str ⟨#[c]⟩)] _ _
                  walk_at "gv"
                  · exact let1_at (by omega) (by omega)
                  · rw [z_len]; show 1 + 1 ≤ 16777216; omega
                  · rw [strLen_append, z_len]; show 1 + 1 + 1 ≤ 16777216; omega
                  · exact rl_ninL
                · show GvE K F [_, _, _, _, _, _, _, _, _, _, _, _, _, .imm (.str ⟨#[c]⟩)] _ _
                  walk_at "gv"
                  · exact let1_at (by omega) (by omega)
                  · rw [z_len]; show 1 + 1 ≤ 16777216; omega
                  · refine rl_catS ?_
                    rw [strLen_append, z_len]; show 1 + 1 + 1 ≤ 16777216; omega
              · exact GvE.int
              · have e : List.map (fun c => D.str (zlt j c)) (List.filter (fun c => !decide (zlt j c ∈ namesF ns k j)) tails.cps.toList) = (spareL (namesF ns k j) j).map D.str := by
                  unfold spareL
                  rw [List.map_map]
                  rfl
                rw [e]
                exact rl_ixL (atI_mapD (xs := spareL (namesF ns k j) j) Str.empty (by decide) (by omega))
            · apply Exists.intro
              walk_at "nrm"
              rw [nextF, if_pos h]
              rfl
          · intro h
            refine .nx ⟨v13, ?_⟩
            rw [nextF, if_neg (of_decide_eq_false h)]
        · rintro _ ⟨v13', rfl⟩
          walk_at "app"
          · rw [List.length_map, namesF_len]
            omega
          · repeat apply Exists.intro
            walk_at "nrm"
            rw [namesF, hnx, List.map_append]
            rfl
      · rintro ρ1 ⟨v5, v6, v7, v8, v9, v10, v11, v12, v13, rfl⟩
        rw [GvI.ups_len]
        exact ⟨_, _, _, _, _, _, _, _, _, rfl⟩
    · rintro _ ⟨v5, v6, v7, v8, v9, v10, v11, v12, v13, rfl⟩
      refine Blk.freeL (i := 3) rfl ?_
      walk_at "ret"
      exact rfl

end
end My

set_option Elab.async false
set_option maxRecDepth 100000
set_option maxHeartbeats 4000000
set_option linter.all false
namespace My
open PySem L2 Own
section
variable {P : Program} [PO P] {w : World} {K : PySem.W.Frag} {mg : Str → Option Value} {base : Heap} {a : Adr}
local macro_rules | `(tactic| walk_at "gv") => `(tactic| first
  | (with_reducible first | exact GvE.int | exact GvE.str | exact GvE.bl | exact GvE.non | exact GvE.glob | exact GvE.ty | exact GvA.nil | exact GvT.yes | exact GvO.no | exact GvE.dnew)
  | ((with_reducible apply GvE.var); rfl)
  | ((with_reducible apply GvA.cons) <;> walk_at "gv")
  | ((with_reducible apply GvE.op) <;> walk_at "gv")
  | ((with_reducible first | apply rl_add | apply rl_sub | apply rl_lt | apply rl_le | apply rl_gt | apply rl_ge | apply rl_eqI | apply rl_eqS | apply rl_neI | apply rl_neS | apply rl_neg | apply rl_slL | apply rl_slT | apply rl_inL | apply rl_ninL | apply rl_inT | apply rl_ninT | apply rl_inS | apply rl_ninS | apply rl_isN | apply rl_notN | apply rc_abs | apply rc_max | apply rc_min | apply rc_tupL | apply rc_all | apply rc_any | apply rc_sum | apply rm_starts | apply rc_len (.inl rfl) | apply rc_len (.inr rfl) | apply rc_list (.inl rfl) | apply rc_list (.inr rfl) | apply rl_I | apply rl_cat | apply rl_catT | apply rl_catS | apply rl_ixL | apply rl_ixT | apply rl_ixS | apply rl_ixK | apply rl_slS | apply rc_lenS | apply rc_strI) <;> try first | decide | exact ⟨by decide, by decide⟩ | exact ⟨by decide, by decide, by decide⟩ | with_reducible (first | exact atI_0 | exact atI_1 | exact atI_2 | exact atI_3 | exact atI_4 | exact atI_5))
  | ((with_reducible apply GvE.cb) <;> walk_at "gv")
  | ((with_reducible apply GvE.un) <;> walk_at "gv")
  | ((with_reducible apply GvE.sl) <;> walk_at "gv")
  | ((with_reducible apply GvO.of) <;> walk_at "gv")
  | ((with_reducible apply GvE.m1) <;> walk_at "gv")
  | ((with_reducible apply GvE.m0) <;> walk_at "gv")
  | ((with_reducible apply GvE.tup) <;> walk_at "gv")
  | ((with_reducible apply GvE.lst) <;> walk_at "gv")
  | ((with_reducible apply GvT.test) <;> walk_at "gv")
  | ((with_reducible apply GvT.val) <;> walk_at "gv")
  | ((with_reducible apply GvT.not) <;> walk_at "gv")
  | ((with_reducible apply GvE.notV) <;> walk_at "gv")
  | ((with_reducible apply GvE.call) <;> walk_at "gv")
  | ((with_reducible first | apply GvT.and | apply GvT.or | apply GvE.andV | apply GvE.orV) <;> first | (intro _; walk_at "gv") | walk_at "gv")
  | decide | exact Nat.le_of_ble_eq_true rfl | skip)
local macro_rules | `(tactic| walk_at "nrm") => `(tactic| try simp only [List.set_cons_zero, List.set_cons_succ])
local macro_rules | `(tactic| walk_at "set") => `(tactic| first | ((with_reducible apply Blk.set_); focus walk_at "gv") | skip)
local macro_rules | `(tactic| walk_at "ret") => `(tactic| first | ((with_reducible apply Blk.ret); focus walk_at "gv") | skip)
local macro_rules | `(tactic| walk_at "if") => `(tactic| first | ((with_reducible apply Blk.ifS); focus walk_at "gv") | skip)
local macro_rules | `(tactic| walk_at "asg") => `(tactic| first | ((with_reducible apply Blk.asg); focus walk_at "gv") | skip)
local macro_rules | `(tactic| walk_at "setG") => `(tactic| first | ((with_reducible apply Blk.setG); focus walk_at "gv") | skip)
local macro_rules | `(tactic| walk_at "app") => `(tactic| first | (((with_reducible apply Blk.append); focus rfl); focus walk_at "gv") | skip)
local macro_rules | `(tactic| walk_at "gg") => `(tactic| first
  | (with_reducible first | exact GvG.name | exact GvG.nil)
  | ((with_reducible apply GvG.cons) <;> walk_at "gg")
  | ((with_reducible first | apply GvG.tup | apply GvG.unl) <;> walk_at "gg")
  | decide | rfl | skip)
local macro_rules | `(tactic| walk_at "ifF") => `(tactic| first | ((with_reducible apply Blk.ifF); focus ((with_reducible apply GvT.cast); focus walk_at "gv")) | skip)
local macro_rules | `(tactic| walk_at "ifT") => `(tactic| first | ((with_reducible apply Blk.ifT); focus ((with_reducible apply GvT.cast); focus walk_at "gv")) | skip)
local macro_rules | `(tactic| walk_at "expr") => `(tactic| first | ((with_reducible apply Blk.expr); focus walk_at "gv") | skip)

/-! ### _law_world -/
/-- names with numbers 1 to b -/
structure OkRows (b : Int) (rs : List (Str × Int)) : Prop where
  good : Good (rs.map (·.1))
  num : ∀ r ∈ rs, 1 ≤ r.2 ∧ r.2 ≤ b
def pk (xs : List Int) (k : Int) : Int := xs.getD k.toNat 0
def rateF (ns : List Int) (k : Int) (j : Nat) : Int :=
  let d := digF ns (k + (0 + (j : Nat)) % 2) [9000, 5, 7]
  pk [1000, 1 + d.getD 0 0, 1000000000, 1, 1 + d.getD 0 0 * 100000] ((d.getD 1 0 + (0 + (j : Nat))) % 5)
def sharesF (ns : List Int) (k : Int) (j : Nat) : Int :=
  let d := digF ns (k + 1) [3, 100, 7]
  pk [100, 10 + d.getD 1 0 + (0 + (j : Nat)), 1000000, 7, 3] ((d.getD 0 0 + (0 + (j : Nat)) * (1 + d.getD 2 0 % 3)) % 5)
def coinsF (ns : List Int) (k m : Int) : List (Str × Int) := (List.range m.toNat).map fun j => ((namesF ns k m.toNat).getD j Str.empty, rateF ns k j)
def housesF (ns : List Int) (k m : Int) : List (Str × Int) := (List.range m.toNat).map fun j => ((namesF ns (k + 1) m.toNat).getD j Str.empty, sharesF ns k j)
def rowT (r : Str × Int) : D := .tup [.str r.1, .int r.2]
theorem pk5 {b x0 x1 x2 x3 x4 k : Int} (h0 : 1 ≤ x0 ∧ x0 ≤ b) (h1 : 1 ≤ x1 ∧ x1 ≤ b) (h2 : 1 ≤ x2 ∧ x2 ≤ b) (h3 : 1 ≤ x3 ∧ x3 ≤ b) (h4 : 1 ≤ x4 ∧ x4 ≤ b) : 1 ≤ pk [x0, x1, x2, x3, x4] (k % 5) ∧ pk [x0, x1, x2, x3, x4] (k % 5) ≤ b := by
  have a := Int.emod_nonneg k (show (5 : Int) ≠ 0 by decide)
  have c := Int.emod_lt_of_pos k (show (0 : Int) < 5 by decide)
  generalize k % 5 = m at a c
  have : m = 0 ∨ m = 1 ∨ m = 2 ∨ m = 3 ∨ m = 4 := by omega
  rcases this with rfl | rfl | rfl | rfl | rfl
  · exact h0
  · exact h1
  · exact h2
  · exact h3
  · exact h4
theorem rateF_in {ns : List Int} {k : Int} {j : Nat} : 1 ≤ rateF ns k j ∧ rateF ns k j ≤ 1000000000 := by
  obtain ⟨a, b, c, hD, ⟨a0, a1⟩, ⟨b0, b1⟩, ⟨c0, c1⟩⟩ := drawn3 (digF_in (ns := ns) (k := k + (0 + (j : Nat)) % 2) (szs := [9000, 5, 7]) (by decide))
  unfold rateF
  rw [hD]
  simp only [List.getD_cons_zero, List.getD_cons_succ]
  exact pk5 (by omega) (by omega) (by omega) (by omega) (by omega)
theorem sharesF_in {ns : List Int} {k : Int} {j : Nat} (hj : j < 20) : 1 ≤ sharesF ns k j ∧ sharesF ns k j ≤ 1000000 := by
  obtain ⟨a, b, c, hD, ⟨a0, a1⟩, ⟨b0, b1⟩, ⟨c0, c1⟩⟩ := drawn3 (digF_in (ns := ns) (k := k + 1) (szs := [3, 100, 7]) (by decide))
  unfold sharesF
  rw [hD]
  simp only [List.getD_cons_zero, List.getD_cons_succ]
  exact pk5 (by omega) (by omega) (by omega) (by omega) (by omega)
theorem getD_range {α : Type} (x0 : α) {xs : List α} {n : Nat} (h : xs.length = n) : (List.range n).map (fun j => xs.getD j x0) = xs := by
  refine List.ext_getElem? fun i => ?_
  rw [List.getElem?_map]
  by_cases hi : i < n
  · rw [List.getElem?_range hi]
    show some (xs.getD i x0) = _
    rw [List.getD_eq_getElem?_getD]
    have : i < xs.length := by omega
    simp [this]
  · rw [List.getElem?_eq_none_iff.mpr (by simp; omega), List.getElem?_eq_none_iff.mpr (by omega)]
    rfl
theorem coinsF_ok {ns : List Int} {k m : Int} (h : m ≤ 12) : OkRows 1000000000 (coinsF ns k m) := by
  refine ⟨?_, fun r hr => ?_⟩
  · unfold coinsF
    rw [List.map_map]
    show Good ((List.range m.toNat).map fun j => (namesF ns k m.toNat).getD j Str.empty)
    rw [getD_range _ namesF_len]
    exact namesF_good (by omega)
  · obtain ⟨j, _, rfl⟩ := List.mem_map.mp hr
    exact rateF_in
theorem housesF_ok {ns : List Int} {k m : Int} (h : m ≤ 12) : OkRows 1000000 (housesF ns k m) := by
  refine ⟨?_, fun r hr => ?_⟩
  · unfold housesF
    rw [List.map_map]
    show Good ((List.range m.toNat).map fun j => (namesF ns (k + 1) m.toNat).getD j Str.empty)
    rw [getD_range _ namesF_len]
    exact namesF_good (by omega)
  · obtain ⟨j, hj, rfl⟩ := List.mem_map.mp hr
    exact sharesF_in (by have := List.mem_range.mp hj; omega)
theorem coinsF_len {ns : List Int} {k m : Int} : (coinsF ns k m).length = m.toNat := by simp [coinsF]
theorem housesF_len {ns : List Int} {k m : Int} : (housesF ns k m).length = m.toNat := by simp [housesF]

end
end My

set_option Elab.async false
set_option maxRecDepth 100000
set_option maxHeartbeats 4000000
set_option linter.all false
namespace My
open PySem L2 Own
section
variable {P : Program} [PO P] {w : World} {K : PySem.W.Frag} {mg : Str → Option Value} {base : Heap} {a : Adr}
local macro_rules | `(tactic| walk_at "gv") => `(tactic| first
  | (with_reducible first | exact GvE.int | exact GvE.str | exact GvE.bl | exact GvE.non | exact GvE.glob | exact GvE.ty | exact GvA.nil | exact GvT.yes | exact GvO.no | exact GvE.dnew)
  | ((with_reducible apply GvE.var); rfl)
  | ((with_reducible apply GvA.cons) <;> walk_at "gv")
  | ((with_reducible apply GvE.op) <;> walk_at "gv")
  | ((with_reducible first | apply rl_add | apply rl_sub | apply rl_lt | apply rl_le | apply rl_gt | apply rl_ge | apply rl_eqI | apply rl_eqS | apply rl_neI | apply rl_neS | apply rl_neg | apply rl_slL | apply rl_slT | apply rl_inL | apply rl_ninL | apply rl_inT | apply rl_ninT | apply rl_inS | apply rl_ninS | apply rl_isN | apply rl_notN | apply rc_abs | apply rc_max | apply rc_min | apply rc_tupL | apply rc_all | apply rc_any | apply rc_sum | apply rm_starts | apply rc_len (.inl rfl) | apply rc_len (.inr rfl) | apply rc_list (.inl rfl) | apply rc_list (.inr rfl) | apply rl_I | apply rl_cat | apply rl_catT | apply rl_catS | apply rl_ixL | apply rl_ixT | apply rl_ixS | apply rl_ixK | apply rl_slS | apply rc_lenS | apply rc_strI) <;> try first | decide | exact ⟨by decide, by decide⟩ | exact ⟨by decide, by decide, by decide⟩ | with_reducible (first | exact atI_0 | exact atI_1 | exact atI_2 | exact atI_3 | exact atI_4 | exact atI_5))
  | ((with_reducible apply GvE.cb) <;> walk_at "gv")
  | ((with_reducible apply GvE.un) <;> walk_at "gv")
  | ((with_reducible apply GvE.sl) <;> walk_at "gv")
  | ((with_reducible apply GvO.of) <;> walk_at "gv")
  | ((with_reducible apply GvE.m1) <;> walk_at "gv")
  | ((with_reducible apply GvE.m0) <;> walk_at "gv")
  | ((with_reducible apply GvE.tup) <;> walk_at "gv")
  | ((with_reducible apply GvE.lst) <;> walk_at "gv")
  | ((with_reducible apply GvT.test) <;> walk_at "gv")
  | ((with_reducible apply GvT.val) <;> walk_at "gv")
  | ((with_reducible apply GvT.not) <;> walk_at "gv")
  | ((with_reducible apply GvE.notV) <;> walk_at "gv")
  | ((with_reducible apply GvE.call) <;> walk_at "gv")
  | ((with_reducible first | apply GvT.and | apply GvT.or | apply GvE.andV | apply GvE.orV) <;> first | (intro _; walk_at "gv") | walk_at "gv")
  | decide | exact Nat.le_of_ble_eq_true rfl | skip)
local macro_rules | `(tactic| walk_at "nrm") => `(tactic| try simp only [List.set_cons_zero, List.set_cons_succ])
local macro_rules | `(tactic| walk_at "set") => `(tactic| first | ((with_reducible apply Blk.set_); focus walk_at "gv") | skip)
local macro_rules | `(tactic| walk_at "ret") => `(tactic| first | ((with_reducible apply Blk.ret); focus walk_at "gv") | skip)
local macro_rules | `(tactic| walk_at "if") => `(tactic| first | ((with_reducible apply Blk.ifS); focus walk_at "gv") | skip)
local macro_rules | `(tactic| walk_at "asg") => `(tactic| first | ((with_reducible apply Blk.asg); focus walk_at "gv") | skip)
local macro_rules | `(tactic| walk_at "setG") => `(tactic| first | ((with_reducible apply Blk.setG); focus walk_at "gv") | skip)
local macro_rules | `(tactic| walk_at "app") => `(tactic| first | (((with_reducible apply Blk.append); focus rfl); focus walk_at "gv") | skip)
local macro_rules | `(tactic| walk_at "gg") => `(tactic| first
  | (with_reducible first | exact GvG.name | exact GvG.nil)
  | ((with_reducible apply GvG.cons) <;> walk_at "gg")
  | ((with_reducible first | apply GvG.tup | apply GvG.unl) <;> walk_at "gg")
  | decide | rfl | skip)
local macro_rules | `(tactic| walk_at "ifF") => `(tactic| first | ((with_reducible apply Blk.ifF); focus ((with_reducible apply GvT.cast); focus walk_at "gv")) | skip)
local macro_rules | `(tactic| walk_at "ifT") => `(tactic| first | ((with_reducible apply Blk.ifT); focus ((with_reducible apply GvT.cast); focus walk_at "gv")) | skip)
local macro_rules | `(tactic| walk_at "expr") => `(tactic| first | ((with_reducible apply Blk.expr); focus walk_at "gv") | skip)

/-! ### texts with a sign ahead -/
def atS (h : Str) : Str := Str.ofString "@" ++ h
theorem at_list : (Str.ofString "@").cps.toList = [64] := by decide +kernel
theorem atS_list (h : Str) : (atS h).cps.toList = 64 :: h.cps.toList := by
  unfold atS
  rw [Str.cps_append, Array.toList_append, at_list]
  rfl
theorem atS_len (h : Str) : (atS h).length = 1 + h.length := by
  unfold atS
  rw [strLen_append, show (Str.ofString "@").length = 1 by decide +kernel]
theorem sIx1 {n : Nat} (h : 1 ≤ n) {d : Nat} : HT.sIx n d (some (1 : Int)) = 1 := by
  rw [show (1 : Int) = ((1 : Nat) : Int) by rfl, HT.sIx_nat]
  omega
theorem str_ext {x y : Str} (h : x.cps.toList = y.cps.toList) : x = y := by
  obtain ⟨a⟩ := x
  obtain ⟨b⟩ := y
  have : a = b := by simpa using congrArg List.toArray h
  rw [this]
theorem atS_cut (h : Str) : cutS (atS h) (some 1) none = h := by
  refine str_ext ?_
  unfold cutS
  rw [atS_len, sIx1 (by omega), atS_list]
  show (h.cps.toList.take (1 + h.length - 1)).toArray.toList = _
  rw [show 1 + h.length - 1 = h.cps.toList.length by rw [← len_list]; omega, List.take_length]
theorem atS_head (h : Str) : cutS (atS h) none (some 1) = Str.ofString "@" := by
  refine str_ext ?_
  unfold cutS
  rw [atS_len, sIx1 (by omega), atS_list, at_list]
  rfl
theorem starts_eq (x y : Str) : PySem.Txt.startswith x y = (decide (0 + y.length ≤ x.length) && (x.cps.toList.take y.length == y.cps.toList)) := by
  unfold PySem.Txt.startswith
  rw [PySem.StrLaws.subAt_eq, List.drop_zero]
theorem atS_starts (h : Str) : PySem.Txt.startswith (atS h) (Str.ofString "@") = true := by
  rw [starts_eq, atS_len, atS_list, show (Str.ofString "@").length = 1 by decide +kernel, at_list]
  simp
theorem let_starts {z : Str} {n : Nat} (h : Let z n) : PySem.Txt.startswith z (Str.ofString "@") = false := by
  rw [starts_eq, show (Str.ofString "@").length = 1 by decide +kernel, at_list]
  cases e : z.cps.toList with
  | nil => simp
  | cons c r =>
    have := h.low c (by rw [e]; exact List.mem_cons_self)
    unfold Low at this
    have hc : (c == 64) = false := by
      rw [beq_eq_false_iff_ne]
      omega
    simp [hc]
theorem let_head {z : Str} {n : Nat} (h : Let z n) : cutS z none (some 1) ≠ Str.ofString "@" := fun e => by
  have e := congrArg (fun y : Str => y.cps.toList) e
  have e : (cutS z none (some 1)).cps.toList = (Str.ofString "@").cps.toList := e
  rw [at_list] at e
  have m : 64 ∈ (cutS z none (some 1)).cps.toList := by rw [e]; exact List.mem_cons_self
  unfold cutS at m
  have := h.low 64 (List.mem_of_mem_drop (List.mem_of_mem_take (by simpa using m)))
  unfold Low at this
  omega

end
end My

set_option Elab.async false
set_option maxRecDepth 100000
set_option maxHeartbeats 4000000
set_option linter.all false
namespace My
open PySem L2 Own
section
variable {P : Program} [PO P] {w : World} {K : PySem.W.Frag} {mg : Str → Option Value} {base : Heap} {a : Adr}
local macro_rules | `(tactic| walk_at "gv") => `(tactic| first
  | (with_reducible first | exact GvE.int | exact GvE.str | exact GvE.bl | exact GvE.non | exact GvE.glob | exact GvE.ty | exact GvA.nil | exact GvT.yes | exact GvO.no | exact GvE.dnew)
  | ((with_reducible apply GvE.var); rfl)
  | ((with_reducible apply GvA.cons) <;> walk_at "gv")
  | ((with_reducible apply GvE.op) <;> walk_at "gv")
  | ((with_reducible first | apply rl_add | apply rl_sub | apply rl_lt | apply rl_le | apply rl_gt | apply rl_ge | apply rl_eqI | apply rl_eqS | apply rl_neI | apply rl_neS | apply rl_neg | apply rl_slL | apply rl_slT | apply rl_inL | apply rl_ninL | apply rl_inT | apply rl_ninT | apply rl_inS | apply rl_ninS | apply rl_isN | apply rl_notN | apply rc_abs | apply rc_max | apply rc_min | apply rc_tupL | apply rc_all | apply rc_any | apply rc_sum | apply rm_starts | apply rc_len (.inl rfl) | apply rc_len (.inr rfl) | apply rc_list (.inl rfl) | apply rc_list (.inr rfl) | apply rl_I | apply rl_cat | apply rl_catT | apply rl_catS | apply rl_ixL | apply rl_ixT | apply rl_ixS | apply rl_ixK | apply rl_slS | apply rc_lenS | apply rc_strI) <;> try first | decide | exact ⟨by decide, by decide⟩ | exact ⟨by decide, by decide, by decide⟩ | with_reducible (first | exact atI_0 | exact atI_1 | exact atI_2 | exact atI_3 | exact atI_4 | exact atI_5))
  | ((with_reducible apply GvE.cb) <;> walk_at "gv")
  | ((with_reducible apply GvE.un) <;> walk_at "gv")
  | ((with_reducible apply GvE.sl) <;> walk_at "gv")
  | ((with_reducible apply GvO.of) <;> walk_at "gv")
  | ((with_reducible apply GvE.m1) <;> walk_at "gv")
  | ((with_reducible apply GvE.m0) <;> walk_at "gv")
  | ((with_reducible apply GvE.tup) <;> walk_at "gv")
  | ((with_reducible apply GvE.lst) <;> walk_at "gv")
  | ((with_reducible apply GvT.test) <;> walk_at "gv")
  | ((with_reducible apply GvT.val) <;> walk_at "gv")
  | ((with_reducible apply GvT.not) <;> walk_at "gv")
  | ((with_reducible apply GvE.notV) <;> walk_at "gv")
  | ((with_reducible apply GvE.call) <;> walk_at "gv")
  | ((with_reducible first | apply GvT.and | apply GvT.or | apply GvE.andV | apply GvE.orV) <;> first | (intro _; walk_at "gv") | walk_at "gv")
  | decide | exact Nat.le_of_ble_eq_true rfl | skip)
local macro_rules | `(tactic| walk_at "nrm") => `(tactic| try simp only [List.set_cons_zero, List.set_cons_succ])
local macro_rules | `(tactic| walk_at "set") => `(tactic| first | ((with_reducible apply Blk.set_); focus walk_at "gv") | skip)
local macro_rules | `(tactic| walk_at "ret") => `(tactic| first | ((with_reducible apply Blk.ret); focus walk_at "gv") | skip)
local macro_rules | `(tactic| walk_at "if") => `(tactic| first | ((with_reducible apply Blk.ifS); focus walk_at "gv") | skip)
local macro_rules | `(tactic| walk_at "asg") => `(tactic| first | ((with_reducible apply Blk.asg); focus walk_at "gv") | skip)
local macro_rules | `(tactic| walk_at "setG") => `(tactic| first | ((with_reducible apply Blk.setG); focus walk_at "gv") | skip)
local macro_rules | `(tactic| walk_at "app") => `(tactic| first | (((with_reducible apply Blk.append); focus rfl); focus walk_at "gv") | skip)
local macro_rules | `(tactic| walk_at "gg") => `(tactic| first
  | (with_reducible first | exact GvG.name | exact GvG.nil)
  | ((with_reducible apply GvG.cons) <;> walk_at "gg")
  | ((with_reducible first | apply GvG.tup | apply GvG.unl) <;> walk_at "gg")
  | decide | rfl | skip)
local macro_rules | `(tactic| walk_at "ifF") => `(tactic| first | ((with_reducible apply Blk.ifF); focus ((with_reducible apply GvT.cast); focus walk_at "gv")) | skip)
local macro_rules | `(tactic| walk_at "ifT") => `(tactic| first | ((with_reducible apply Blk.ifT); focus ((with_reducible apply GvT.cast); focus walk_at "gv")) | skip)
local macro_rules | `(tactic| walk_at "expr") => `(tactic| first | ((with_reducible apply Blk.expr); focus walk_at "gv") | skip)

/-! ### _need_name, _need_number, need_day -/
def R_need_name (ds : List D) (d : D) : Prop := ∃ (z : Str) (n : Nat), ds = [.str z] ∧ Let z n ∧ 1 ≤ n ∧ n ≤ 6 ∧ d = .non
theorem abc_in {c : Nat} (h : Low c) : c ∈ (Str.ofString "abcdefghijklmnopqrstuvwxyz").cps.toList := by
  have e : (Str.ofString "abcdefghijklmnopqrstuvwxyz").cps.toList = List.range' 97 26 := abc_list
  unfold Low at h
  rw [e, List.mem_range']
  exact ⟨c - 97, by omega, by omega⟩
theorem signs_at {z : Str} {i : Nat} {d : D} (h : (GvI.signs z)[i]? = some d) : ∃ c, c ∈ z.cps.toList ∧ d = .str ⟨#[c]⟩ := by
  obtain ⟨c, hc, rfl⟩ := map_at h
  exact ⟨c, List.mem_of_getElem? hc, rfl⟩
theorem ok_need_name (T : Tx a K mg w) : FnOk P w K mg base CX0 1 a.f_need_name a.d_need_name ps_need_name (spD K false R_need_name) := by
  refine okP T.F_need_name sc_need_name (fun ds d h => ?_) (fun cdv A outer s H X hr => ?_)
  · obtain ⟨z, n, rfl, _⟩ := h
    rfl
  · have hu := hu_of hr
    obtain ⟨tokX_MOST_LETTERS, mgX_MOST_LETTERS⟩ := T.mg_MOST_LETTERS
    obtain ⟨tokX_LETTERS, mgX_LETTERS⟩ := T.mg_LETTERS
    refine ⟨_, (pss_cons (ps_if (PW.pt (pw_or (pt_cmpR op_lt (pe_callB call_len_str (by rfl) T.no_len (by decide +kernel) (pa_cons (pv 0) pa_nil)) pe_int (nomark _)) (pw_or1 (pt_cmpR op_gt (pe_callB call_len_str (by rfl) T.no_len (by decide +kernel) (pa_cons (pv 0) pa_nil)) (pe_glob (v := V.int 6) rfl mgX_MOST_LETTERS ⟨_, rfl⟩) (nomark _))))) (pss_one ps_never) pss_nil)
      (pss_one (ps_for PassesOwn.never rfl (pi_str (pv 0)) (pg_name (i := 1) sc_need_name.nd rfl (by first | exact Or.inl rfl | exact Or.inr rfl))
        (pss_one (ps_if (pt_cmpR op_notInS (pv 1) (pe_glob (v := V.str "abcdefghijklmnopqrstuvwxyz") rfl mgX_LETTERS ⟨_, rfl⟩) (by rfl)) (pss_one ps_never) pss_nil))))), ?_⟩
    try simp only [cxK, Cx.nox, Cx.wish]
    rintro F ds d ⟨z, n, rfl, hl, n1, n6, rfl⟩ -
    show Blk K F [.imm (.str z), .un] _ _
    have hz := hl.len
    refine Blk.seq (ρ1 := [.imm (.str z), .un]) ?_ ?_
    · walk_at "ifF"
      · omega
      · omega
      · simp
        omega
      · exact .nx rfl
    · refine Blk.for_ (GvI.str (.var rfl)) (fun i r => ∃ v, r = [.imm (.str z), v]) ⟨_, rfl⟩ ?_ ?_
      · rintro i d ρ1 hd ⟨v, rfl⟩
        obtain ⟨c, hc, rfl⟩ := signs_at hd
        refine ⟨_, _, .name, ?_⟩
        walk_at "nrm"
        walk_at "ifF"
        · simp only [Bool.not_eq_false', decide_eq_true_eq]
          exact abc_in (hl.low c hc)
        · exact .nx ⟨_, rfl⟩
      · rintro _ ⟨v, rfl⟩
        exact rfl
/-- what the numbers of each sort are within -/
def numB (w : Str) (lo hi : Int) : Prop := (w = "rate" ∧ lo = 1 ∧ hi = 1000000000) ∨ (w = "shares" ∧ lo = 1 ∧ hi = 1000000) ∨ (w = "change" ∧ lo = -1000000000000 ∧ hi = 1000000000000) ∨ (w = "amount" ∧ lo = 1 ∧ hi = 1000000000000) ∨
  (w = "count" ∧ lo = 1 ∧ hi = 1000000) ∨ (w = "price" ∧ lo = 0 ∧ hi = 1000000000000) ∨ (w = "times" ∧ lo = 2 ∧ hi = 9) ∨ (w = "per" ∧ lo = 1 ∧ hi = 1000000)
theorem numB_K (T : Tx a K mg w) {z : Str} {lo hi : Int} (h : numB z lo hi) : ∃ p, KDct K w a.B_BOUNDS z (.ref p) ∧ SqtK K p [.int lo, .int hi] := by
  rcases h with ⟨rfl, rfl, rfl⟩ | ⟨rfl, rfl, rfl⟩ | ⟨rfl, rfl, rfl⟩ | ⟨rfl, rfl, rfl⟩ | ⟨rfl, rfl, rfl⟩ | ⟨rfl, rfl, rfl⟩ | ⟨rfl, rfl, rfl⟩ | ⟨rfl, rfl, rfl⟩
  · exact ⟨_, T.ix_BOUNDS_rate, T.sq_BOUNDS_rate⟩
  · exact ⟨_, T.ix_BOUNDS_shares, T.sq_BOUNDS_shares⟩
  · exact ⟨_, T.ix_BOUNDS_change, T.sq_BOUNDS_change⟩
  · exact ⟨_, T.ix_BOUNDS_amount, T.sq_BOUNDS_amount⟩
  · exact ⟨_, T.ix_BOUNDS_count, T.sq_BOUNDS_count⟩
  · exact ⟨_, T.ix_BOUNDS_price, T.sq_BOUNDS_price⟩
  · exact ⟨_, T.ix_BOUNDS_times, T.sq_BOUNDS_times⟩
  · exact ⟨_, T.ix_BOUNDS_per, T.sq_BOUNDS_per⟩
def R_need_number (ds : List D) (d : D) : Prop := ∃ (z : Str) (n lo hi : Int), ds = [.str z, .int n] ∧ numB z lo hi ∧ lo ≤ n ∧ n ≤ hi ∧ (z = "change" → n ≠ 0) ∧ d = .non
theorem ok_need_number (T : Tx a K mg w) : FnOk P w K mg base CX0 1 a.f_need_number a.d_need_number ps_need_number (spD K false R_need_number) := by
  refine okP T.F_need_number sc_need_number (fun ds d h => ?_) (fun cdv A outer s H X hr => ?_)
  · obtain ⟨z, n, lo, hi, rfl, _⟩ := h
    rfl
  · have hu := hu_of hr
    refine ⟨_, (pss_cons (ps_asg (pe_ix ix_kdict (pe_glob (v := V.ref a.B_BOUNDS) rfl T.mg_BOUNDS rfl) (pv 0) (fun _ _ => rfl)) (pg_tup rfl (pgs_cons (pg_name (i := 2) sc_need_number.nd rfl (by first | exact Or.inl rfl | exact Or.inr rfl)) (pgs_cons (pg_name (i := 3) sc_need_number.nd rfl (by first | exact Or.inl rfl | exact Or.inr rfl)) pgs_nil)) (by rfl)))
      (pss_cons (ps_if (PW.pt (pw_or (pt_cmpR op_lt (pv 1) (pv 2) (nomark _)) (pw_or1 (pt_cmpR op_gt (pv 1) (pv 3) (nomark _))))) (pss_one ps_never) pss_nil)
      (pss_one (ps_if (PW.pt (pw_and (pt_cmpR op_eq (pv 0) pe_str (nomark _)) (pw_and1 (pt_cmpR op_eq (pv 1) pe_int (nomark _))))) (pss_one ps_never) pss_nil)))), ?_⟩
    try simp only [cxK, Cx.nox, Cx.wish]
    rintro F ds d ⟨z, n, lo, hi, rfl, hb, h1, h2, h3, rfl⟩ -
    show Blk K F [.imm (.str z), .imm (.int n), .un, .un] _ _
    obtain ⟨p, hK, hS⟩ := numB_K T hb
    refine Blk.setG (d := .tup [.int lo, .int hi]) (GvE.op .glob (.var rfl) (rl_ixK hK fun I => .tup' (hS.sq I) (.cons (.int _) (.cons (.int _) .nil)))) (GvG.tup (GvG.cons .name (GvG.cons .name GvG.nil)) rfl) ?_
    walk_at "nrm"
    refine Blk.seq (ρ1 := [.imm (.str z), .imm (.int n), .imm (.int lo), .imm (.int hi)]) ?_ ?_
    · walk_at "ifF"
      · simp
        omega
      · exact .nx rfl
    · walk_at "ifF"
      · simp only [Bool.and_eq_false_imp, decide_eq_true_eq, decide_eq_false_iff_not]
        exact h3
      · exact .nx rfl

end
end My

set_option Elab.async false
set_option maxRecDepth 100000
set_option maxHeartbeats 4000000
set_option linter.all false
namespace My
open PySem L2 Own
section
variable {P : Program} [PO P] {w : World} {K : PySem.W.Frag} {mg : Str → Option Value} {base : Heap} {a : Adr}
local macro_rules | `(tactic| walk_at "gv") => `(tactic| first
  | (with_reducible first | exact GvE.int | exact GvE.str | exact GvE.bl | exact GvE.non | exact GvE.glob | exact GvE.ty | exact GvA.nil | exact GvT.yes | exact GvO.no | exact GvE.dnew)
  | ((with_reducible apply GvE.var); rfl)
  | ((with_reducible apply GvA.cons) <;> walk_at "gv")
  | ((with_reducible apply GvE.op) <;> walk_at "gv")
  | ((with_reducible first | apply rl_add | apply rl_sub | apply rl_lt | apply rl_le | apply rl_gt | apply rl_ge | apply rl_eqI | apply rl_eqS | apply rl_neI | apply rl_neS | apply rl_neg | apply rl_slL | apply rl_slT | apply rl_inL | apply rl_ninL | apply rl_inT | apply rl_ninT | apply rl_inS | apply rl_ninS | apply rl_isN | apply rl_notN | apply rc_abs | apply rc_max | apply rc_min | apply rc_tupL | apply rc_all | apply rc_any | apply rc_sum | apply rm_starts | apply rc_len (.inl rfl) | apply rc_len (.inr rfl) | apply rc_list (.inl rfl) | apply rc_list (.inr rfl) | apply rl_I | apply rl_cat | apply rl_catT | apply rl_catS | apply rl_ixL | apply rl_ixT | apply rl_ixS | apply rl_ixK | apply rl_slS | apply rc_lenS | apply rc_strI) <;> try first | decide | exact ⟨by decide, by decide⟩ | exact ⟨by decide, by decide, by decide⟩ | with_reducible (first | exact atI_0 | exact atI_1 | exact atI_2 | exact atI_3 | exact atI_4 | exact atI_5))
  | ((with_reducible apply GvE.cb) <;> walk_at "gv")
  | ((with_reducible apply GvE.un) <;> walk_at "gv")
  | ((with_reducible apply GvE.sl) <;> walk_at "gv")
  | ((with_reducible apply GvO.of) <;> walk_at "gv")
  | ((with_reducible apply GvE.m1) <;> walk_at "gv")
  | ((with_reducible apply GvE.m0) <;> walk_at "gv")
  | ((with_reducible apply GvE.tup) <;> walk_at "gv")
  | ((with_reducible apply GvE.lst) <;> walk_at "gv")
  | ((with_reducible apply GvT.test) <;> walk_at "gv")
  | ((with_reducible apply GvT.val) <;> walk_at "gv")
  | ((with_reducible apply GvT.not) <;> walk_at "gv")
  | ((with_reducible apply GvE.notV) <;> walk_at "gv")
  | ((with_reducible apply GvE.call) <;> walk_at "gv")
  | ((with_reducible first | apply GvT.and | apply GvT.or | apply GvE.andV | apply GvE.orV) <;> first | (intro _; walk_at "gv") | walk_at "gv")
  | decide | exact Nat.le_of_ble_eq_true rfl | skip)
local macro_rules | `(tactic| walk_at "nrm") => `(tactic| try simp only [List.set_cons_zero, List.set_cons_succ])
local macro_rules | `(tactic| walk_at "set") => `(tactic| first | ((with_reducible apply Blk.set_); focus walk_at "gv") | skip)
local macro_rules | `(tactic| walk_at "ret") => `(tactic| first | ((with_reducible apply Blk.ret); focus walk_at "gv") | skip)
local macro_rules | `(tactic| walk_at "if") => `(tactic| first | ((with_reducible apply Blk.ifS); focus walk_at "gv") | skip)
local macro_rules | `(tactic| walk_at "asg") => `(tactic| first | ((with_reducible apply Blk.asg); focus walk_at "gv") | skip)
local macro_rules | `(tactic| walk_at "setG") => `(tactic| first | ((with_reducible apply Blk.setG); focus walk_at "gv") | skip)
local macro_rules | `(tactic| walk_at "app") => `(tactic| first | (((with_reducible apply Blk.append); focus rfl); focus walk_at "gv") | skip)
local macro_rules | `(tactic| walk_at "gg") => `(tactic| first
  | (with_reducible first | exact GvG.name | exact GvG.nil)
  | ((with_reducible apply GvG.cons) <;> walk_at "gg")
  | ((with_reducible first | apply GvG.tup | apply GvG.unl) <;> walk_at "gg")
  | decide | rfl | skip)
local macro_rules | `(tactic| walk_at "ifF") => `(tactic| first | ((with_reducible apply Blk.ifF); focus ((with_reducible apply GvT.cast); focus walk_at "gv")) | skip)
local macro_rules | `(tactic| walk_at "ifT") => `(tactic| first | ((with_reducible apply Blk.ifT); focus ((with_reducible apply GvT.cast); focus walk_at "gv")) | skip)
local macro_rules | `(tactic| walk_at "expr") => `(tactic| first | ((with_reducible apply Blk.expr); focus walk_at "gv") | skip)

/-! ### _numbers_by_name, World -/
def rowsK (rs : List (Str × Int)) : List (Key × D) := rs.map fun r => (Sum.inr r.1, .int r.2)
def fsW (cs hs : List (Str × Int)) : List (Str × D) := [("_rates", D.dK (rowsK cs)), ("_shares", D.dK (rowsK hs))]
def worldD (C : Addr) (cs hs : List (Str × Int)) : D := .ins C (fsW cs hs)
theorem getD_rows {rs : List (Str × Int)} {n : Str} : (getD (rowsK rs) (Sum.inr n)).isSome = decide (n ∈ rs.map (·.1)) := by
  unfold getD rowsK
  rw [Option.isSome_map]
  induction rs with
  | nil => rfl
  | cons r rs ih =>
    rw [List.map_cons, List.find?_cons]
    by_cases e : r.1 = n
    · simp [e]
    · have h1 : decide ((Sum.inr r.1 : Key) = Sum.inr n) = false := decide_eq_false fun z => e (Sum.inr.inj z)
      rw [h1, ih, List.map_cons]
      simp [Ne.symm e]
theorem putD_rows {rs : List (Str × Int)} {n : Str} {v : Int} (h : n ∉ rs.map (·.1)) : putD (rowsK rs) (Sum.inr n) (.int v) = rowsK (rs ++ [(n, v)]) := by
  unfold putD
  rw [if_neg]
  · unfold rowsK
    rw [List.map_append]
    rfl
  · intro z
    obtain ⟨kv, hkv, e⟩ := List.any_eq_true.mp z
    obtain ⟨r, hr, rfl⟩ := List.mem_map.mp hkv
    exact h (List.mem_map.mpr ⟨r, hr, Sum.inr.inj (of_decide_eq_true e)⟩)
def R_numbers (ds : List D) (d : D) : Prop := ∃ (rs : List (Str × Int)) (m hi : Int) (z : Str), ds = [.lst (rs.map rowT), .int m, .str z] ∧ OkRows hi rs ∧ 1 ≤ rs.length ∧ (rs.length : Int) ≤ m ∧ rs.length ≤ 1000 ∧ numB z 1 hi ∧ z ≠ "change" ∧ d = .dK (rowsK rs)
theorem ok_numbers_by_name (T : Tx a K mg w) : FnOk P w K mg base CX0 2 a.f_numbers_by_name a.d_numbers_by_name ps_numbers_by_name (spD K false R_numbers) := by
  refine okP T.F_numbers_by_name sc_numbers_by_name (fun ds d h => ?_) (fun cdv A outer s H X hr => ?_)
  · obtain ⟨rs, m, hi, z, rfl, _⟩ := h
    rfl
  · have hu := hu_of hr
    have G_need_name := ok_need_name (P := P) (w := w) (base := base) T
    have B_need_name := bnd_need_name T
    have hr_need_name : Room 1 _ := hr.mono (by decide)
    have G_need_number := ok_need_number (P := P) (w := w) (base := base) T
    have B_need_number := bnd_need_number T
    have hr_need_number : Room 1 _ := hr.mono (by decide)
    refine ⟨_, (pss_cons (ps_if (PW.pt (pw_or (pt_cmpR op_lt (pe_callB call_len_seq (by rfl) T.no_len (by decide +kernel) (pa_cons (pv 0) pa_nil)) pe_int (nomark _)) (pw_or1 (pt_cmpR op_gt (pe_callB call_len_seq (by rfl) T.no_len (by decide +kernel) (pa_cons (pv 0) pa_nil)) (pv 1) (nomark _))))) (pss_one ps_never) pss_nil)
      (pss_cons (ps_set (i := 3) sc_numbers_by_name.nd rfl (by first | exact Or.inl rfl | exact Or.inr rfl) pe_dnewK)
      (pss_cons (ps_for PassesOwn.never rfl (pi_list (pv 0)) (pg_tup rfl (pgs_cons (pg_name (i := 4) sc_numbers_by_name.nd rfl (by first | exact Or.inl rfl | exact Or.inr rfl)) (pgs_cons (pg_name (i := 5) sc_numbers_by_name.nd rfl (by first | exact Or.inl rfl | exact Or.inr rfl)) pgs_nil)) (by rfl))
        (pss_cons (ps_expr (pe_call G_need_name hr_need_name (by rfl) T.mg_need_name T.F_need_name.kp B_need_name .nil pass0 (pa_cons (pv 4) pa_nil)))
        (pss_cons (ps_if (pt_cmp (pc_din hu (pv 4) (pv 3))) (pss_one ps_never) pss_nil)
        (pss_cons (ps_expr (pe_call G_need_number hr_need_number (by rfl) T.mg_need_number T.F_need_number.kp B_need_number .nil pass0 (pa_cons (pv 2) (pa_cons (pv 5) pa_nil))))
        (pss_one (ps_dput hu (pv 3) (pv 4) (pv 5) rfl))))))
      (pss_one (ps_ret (pv 3)))))), ?_⟩
    try simp only [cxK, Cx.nox, Cx.wish]
    rintro F ds d ⟨rs, m, hi, z, rfl, hok, l1, lm, lt, hb, hz, rfl⟩ -
    show Blk K F [.imm (.lst (rs.map rowT)), .imm (.int m), .imm (.str z), .un, .un, .un] _ _
    refine Blk.seq (ρ1 := [.imm (.lst (rs.map rowT)), .imm (.int m), .imm (.str z), .un, .un, .un]) ?_ ?_
    · walk_at "ifF"
      · rw [List.length_map]
        simp
        omega
      · exact .nx rfl
    refine Blk.seq (Blk.newD rfl) ?_
    walk_at "nrm"
    refine Blk.seqN (N := fun r => ∃ v4 v5, r = [.imm (.lst (rs.map rowT)), .imm (.int m), .imm (.str z), .own (resK K (rowsK rs)), v4, v5]) ?_ ?_
    · refine Blk.for_ (GvI.lst (.var rfl)) (fun i r => ∃ v4 v5, r = [.imm (.lst (rs.map rowT)), .imm (.int m), .imm (.str z), .own (resK K (rowsK (rs.take i))), v4, v5]) ⟨_, _, rfl⟩ ?_ ?_
      · rintro i d ρ1 hd ⟨v4, v5, rfl⟩
        obtain ⟨r, hr, rfl⟩ := Own.map_at hd
        have hm := List.mem_of_getElem? hr
        obtain ⟨n, hn, n1, n6⟩ := hok.good.each r.1 (List.mem_map.mpr ⟨r, hm, rfl⟩)
        obtain ⟨r1, r2⟩ := hok.num r hm
        have hnot : r.1 ∉ (rs.take i).map (·.1) := fun hin => by
          have nd := hok.good.nd
          have e : rs.map (·.1) = (rs.take i).map (·.1) ++ (rs.drop i).map (·.1) := by rw [← List.map_append, List.take_append_drop]
          rw [e, List.nodup_append] at nd
          have hi2 := (List.getElem?_eq_some_iff.mp hr).1
          have hd2 : r.1 ∈ (rs.drop i).map (·.1) := by
            refine List.mem_map.mpr ⟨r, ?_, rfl⟩
            rw [List.drop_eq_getElem_cons hi2, (List.getElem?_eq_some_iff.mp hr).2]
            exact List.mem_cons_self
          exact nd.2.2 r.1 hin r.1 hd2 rfl
        refine ⟨_, _, GvG.tup (GvG.cons .name (GvG.cons .name GvG.nil)) rfl, ?_⟩
        walk_at "nrm"
        refine Blk.seq (by
          walk_at "expr"
          · exact ⟨r.1, n, rfl, hn, n1, n6, rfl⟩
          · exact fun z => by cases z
          · exact rfl) ?_
        refine Blk.seq (ρ1 := [.imm (.lst (rs.map rowT)), .imm (.int m), .imm (.str z), .own (resK K (rowsK (rs.take i))), .imm (.str r.1), .imm (.int r.2)]) ?_ ?_
        · refine Blk.ifF (GvT.val ((GvE.lendK 3 rfl (GvE.din (k := Sum.inr r.1) (.var rfl) (.var rfl)) flat_bl).cast (by rw [getD_rows, decide_eq_false hnot]))) (.nx rfl)
        refine Blk.seq (by
          walk_at "expr"
          · exact ⟨z, r.2, 1, hi, rfl, hb, r1, r2, fun e => absurd e hz, rfl⟩
          · exact fun z => by cases z
          · exact rfl) ?_
        refine Blk.dput (k := Sum.inr r.1) rfl (.var rfl) (.var rfl) ?_ ?_
        · unfold rowsK
          rw [List.length_map, List.length_take]
          omega
        · repeat apply Exists.intro
          walk_at "nrm"
          rw [putD_rows hnot, take_snoc hr]
      · rintro ρ1 ⟨v4, v5, rfl⟩
        rw [List.length_map, List.take_length]
        exact ⟨_, _, rfl⟩
    · rintro _ ⟨v4, v5, rfl⟩
      refine Blk.freeK (i := 3) rfl ?_
      walk_at "ret"
      exact rfl
def R_world_init (ds : List D) (fs : List (Str × D)) : Prop := ∃ cs hs, ds = [.lst (cs.map rowT), .lst (hs.map rowT)] ∧ OkRows 1000000000 cs ∧ OkRows 1000000 hs ∧ 1 ≤ cs.length ∧ cs.length ≤ 5 ∧ 1 ≤ hs.length ∧ hs.length ≤ 8 ∧ fs = fsW cs hs
theorem ok_World_init (T : Tx a K mg w) : FnOk P w K mg base CX0 3 a.f_World_init a.d_World_init ps_World_init (spI K false a.C_World R_world_init) := by
  refine okI T.F_World_init sc_World_init (fun ds fs h => ?_) (fun cdv A outer s H X hr => ?_)
  · obtain ⟨cs, hs, rfl, _⟩ := h
    rfl
  · have hu := hu_of hr
    have G_numbers_by_name := ok_numbers_by_name (P := P) (w := w) (base := base) T
    have B_numbers_by_name := bnd_numbers_by_name T
    have hr_numbers_by_name : Room 2 _ := hr.mono (by decide)
    obtain ⟨tokX_MOST_COINS, mgX_MOST_COINS⟩ := T.mg_MOST_COINS
    obtain ⟨tokX_MOST_HOUSES, mgX_MOST_HOUSES⟩ := T.mg_MOST_HOUSES
    refine ⟨_, (pss_cons (ps_fld (pv 0) (pe_call G_numbers_by_name hr_numbers_by_name (by rfl) T.mg_numbers_by_name T.F_numbers_by_name.kp B_numbers_by_name .nil pass0 (pa_cons (pv 1) (pa_cons (pe_glob (v := V.int 5) rfl mgX_MOST_COINS ⟨_, rfl⟩) (pa_cons pe_str pa_nil)))) rfl)
      (pss_one (ps_fld (pv 0) (pe_call G_numbers_by_name hr_numbers_by_name (by rfl) T.mg_numbers_by_name T.F_numbers_by_name.kp B_numbers_by_name .nil pass0 (pa_cons (pv 2) (pa_cons (pe_glob (v := V.int 8) rfl mgX_MOST_HOUSES ⟨_, rfl⟩) (pa_cons pe_str pa_nil)))) rfl))), ?_⟩
    try simp only [cxK, Cx.nox, Cx.wish]
    rintro F x dx ds fs ⟨cs, hs, rfl, hc, hh, c1, c5, h1, h8, rfl⟩ -
    show Blk K F [.own (resI K a.C_World x dx []), .imm (.lst (cs.map rowT)), .imm (.lst (hs.map rowT))] _ _
    refine Blk.seq (Blk.fld (d := .dK (rowsK cs)) rfl (by
      walk_at "gv"
      · exact ⟨cs, 5, 1000000000, "rate", rfl, hc, c1, by omega, by omega, by simp [numB], by decide +kernel, rfl⟩
      · exact fun z => by cases z) T.cl_World T.na_World__rates (by decide) rfl) ?_
    walk_at "nrm"
    refine Blk.fld (d := .dK (rowsK hs)) rfl (by
      walk_at "gv"
      · exact ⟨hs, 8, 1000000, "shares", rfl, hh, h1, by omega, by omega, by simp [numB], by decide +kernel, rfl⟩
      · exact fun z => by cases z) T.cl_World T.na_World__shares (Nat.le_of_ble_eq_true rfl) ?_
    rfl

end
end My

set_option Elab.async false
set_option maxRecDepth 100000
set_option maxHeartbeats 4000000
set_option linter.all false
namespace My
open PySem L2 Own
section
variable {P : Program} [PO P] {w : World} {K : PySem.W.Frag} {mg : Str → Option Value} {base : Heap} {a : Adr}
local macro_rules | `(tactic| walk_at "gv") => `(tactic| first
  | (with_reducible first | exact GvE.int | exact GvE.str | exact GvE.bl | exact GvE.non | exact GvE.glob | exact GvE.ty | exact GvA.nil | exact GvT.yes | exact GvO.no | exact GvE.dnew)
  | ((with_reducible apply GvE.var); rfl)
  | ((with_reducible apply GvA.cons) <;> walk_at "gv")
  | ((with_reducible apply GvE.op) <;> walk_at "gv")
  | ((with_reducible first | apply rl_add | apply rl_sub | apply rl_lt | apply rl_le | apply rl_gt | apply rl_ge | apply rl_eqI | apply rl_eqS | apply rl_neI | apply rl_neS | apply rl_neg | apply rl_slL | apply rl_slT | apply rl_inL | apply rl_ninL | apply rl_inT | apply rl_ninT | apply rl_inS | apply rl_ninS | apply rl_isN | apply rl_notN | apply rc_abs | apply rc_max | apply rc_min | apply rc_tupL | apply rc_all | apply rc_any | apply rc_sum | apply rm_starts | apply rc_len (.inl rfl) | apply rc_len (.inr rfl) | apply rc_list (.inl rfl) | apply rc_list (.inr rfl) | apply rl_I | apply rl_cat | apply rl_catT | apply rl_catS | apply rl_ixL | apply rl_ixT | apply rl_ixS | apply rl_ixK | apply rl_slS | apply rc_lenS | apply rc_strI) <;> try first | decide | exact ⟨by decide, by decide⟩ | exact ⟨by decide, by decide, by decide⟩ | with_reducible (first | exact atI_0 | exact atI_1 | exact atI_2 | exact atI_3 | exact atI_4 | exact atI_5))
  | ((with_reducible apply GvE.cb) <;> walk_at "gv")
  | ((with_reducible apply GvE.un) <;> walk_at "gv")
  | ((with_reducible apply GvE.sl) <;> walk_at "gv")
  | ((with_reducible apply GvO.of) <;> walk_at "gv")
  | ((with_reducible apply GvE.m1) <;> walk_at "gv")
  | ((with_reducible apply GvE.m0) <;> walk_at "gv")
  | ((with_reducible apply GvE.tup) <;> walk_at "gv")
  | ((with_reducible apply GvE.lst) <;> walk_at "gv")
  | ((with_reducible apply GvT.test) <;> walk_at "gv")
  | ((with_reducible apply GvT.val) <;> walk_at "gv")
  | ((with_reducible apply GvT.not) <;> walk_at "gv")
  | ((with_reducible apply GvE.notV) <;> walk_at "gv")
  | ((with_reducible apply GvE.call) <;> walk_at "gv")
  | ((with_reducible first | apply GvT.and | apply GvT.or | apply GvE.andV | apply GvE.orV) <;> first | (intro _; walk_at "gv") | walk_at "gv")
  | decide | exact Nat.le_of_ble_eq_true rfl | skip)
local macro_rules | `(tactic| walk_at "nrm") => `(tactic| try simp only [List.set_cons_zero, List.set_cons_succ])
local macro_rules | `(tactic| walk_at "set") => `(tactic| first | ((with_reducible apply Blk.set_); focus walk_at "gv") | skip)
local macro_rules | `(tactic| walk_at "ret") => `(tactic| first | ((with_reducible apply Blk.ret); focus walk_at "gv") | skip)
local macro_rules | `(tactic| walk_at "if") => `(tactic| first | ((with_reducible apply Blk.ifS); focus walk_at "gv") | skip)
local macro_rules | `(tactic| walk_at "asg") => `(tactic| first | ((with_reducible apply Blk.asg); focus walk_at "gv") | skip)
local macro_rules | `(tactic| walk_at "setG") => `(tactic| first | ((with_reducible apply Blk.setG); focus walk_at "gv") | skip)
local macro_rules | `(tactic| walk_at "app") => `(tactic| first | (((with_reducible apply Blk.append); focus rfl); focus walk_at "gv") | skip)
local macro_rules | `(tactic| walk_at "gg") => `(tactic| first
  | (with_reducible first | exact GvG.name | exact GvG.nil)
  | ((with_reducible apply GvG.cons) <;> walk_at "gg")
  | ((with_reducible first | apply GvG.tup | apply GvG.unl) <;> walk_at "gg")
  | decide | rfl | skip)
local macro_rules | `(tactic| walk_at "ifF") => `(tactic| first | ((with_reducible apply Blk.ifF); focus ((with_reducible apply GvT.cast); focus walk_at "gv")) | skip)
local macro_rules | `(tactic| walk_at "ifT") => `(tactic| first | ((with_reducible apply Blk.ifT); focus ((with_reducible apply GvT.cast); focus walk_at "gv")) | skip)
local macro_rules | `(tactic| walk_at "expr") => `(tactic| first | ((with_reducible apply Blk.expr); focus walk_at "gv") | skip)

/-! ### what a door lets by -/
def abcL : List Nat := (Str.ofString "abcdefghijklmnopqrstuvwxyz").cps.toList
def okN (z : Str) : Bool := (decide ((1 : Int) ≤ z.length) && decide ((z.length : Int) ≤ 6)) && z.cps.toList.all fun c => decide (c ∈ abcL)
theorem small_txt {z : Str} {n : Nat} (h : Small z n) (hn : n ≤ 1000) : okTxt (.str z) := ⟨z, rfl, by
  have := PySem.StrLaws.reprText_len z fun c hc => Nat.lt_trans (h.low c hc) (by decide)
  have := h.len
  omega⟩
theorem at_txt {z : Str} {n : Nat} (h : Small z n) (hn : n ≤ 1000) : ∀ I v, At K I v (.str z) → okTxt v := fun I v a => by
  obtain rfl := a.inv_str
  exact small_txt h hn
theorem at_any {d : D} : ∀ I v, At K I v d → okAny v := fun _ _ _ => trivial
/-- a text with the sign ahead, or without -/
theorem at_or (z : Str) : (∃ h, z = atS h) ∨ (PySem.Txt.startswith z (Str.ofString "@") = false ∧ cutS z none (some 1) ≠ Str.ofString "@") := by
  cases e : z.cps.toList with
  | nil =>
    refine .inr ⟨?_, fun h => ?_⟩
    · rw [starts_eq, show (Str.ofString "@").length = 1 by decide +kernel, len_list, e]
      rfl
    · have h := congrArg (fun y : Str => y.cps.toList) h
      have h : (cutS z none (some 1)).cps.toList = (Str.ofString "@").cps.toList := h
      rw [at_list] at h
      have m : 64 ∈ (cutS z none (some 1)).cps.toList := by rw [h]; exact List.mem_cons_self
      unfold cutS at m
      have := List.mem_of_mem_drop (List.mem_of_mem_take (by simpa using m))
      rw [e] at this
      cases this
  | cons c r =>
    by_cases hc : c = 64
    · subst hc
      exact .inl ⟨⟨r.toArray⟩, str_ext (by rw [e, atS_list])⟩
    · have hc2 : (c == 64) = false := by simpa using hc
      refine .inr ⟨?_, fun h => ?_⟩
      · rw [starts_eq, show (Str.ofString "@").length = 1 by decide +kernel, at_list, e]
        simp [hc2]
      · have h := congrArg (fun y : Str => y.cps.toList) h
        have h : (cutS z none (some 1)).cps.toList = (Str.ofString "@").cps.toList := h
        rw [at_list] at h
        unfold cutS at h
        rw [sIx1 (by rw [len_list, e]; simp), e] at h
        have h : [c] = [64] := h
        exact hc (List.cons.inj h).1
/-- class, word, field, value of what is refused -/
abbrev Due := Addr × Str × Str × D
def dueN (a : Adr) (z : Str) : Option Due := if okN z then none else some (a.C_BadName, "BadName", "name", .str z)
def dueH (a : Adr) (hs : List (Str × Int)) (z : Str) : Option Due := if z ∈ hs.map (·.1) then none else some (a.C_NoHouse, "NoHouse", "name", .str z)
def dueC (a : Adr) (cs : List (Str × Int)) (z : Str) : Option Due := if z ∈ cs.map (·.1) then none else some (a.C_NoCoin, "NoCoin", "name", .str z)
def dueT (a : Adr) (hs : List (Str × Int)) (z : Str) : Option Due := if PySem.Txt.startswith z (Str.ofString "@") then dueH a hs (cutS z (some 1) none) else dueN a z
def dueD (a : Adr) (n : Int) : Option Due := if 0 ≤ n ∧ n ≤ 29 then none else some (a.C_BadDay, "BadDay", "day", .int n)
/-- a door, let by -/
def RokD (due : List D → Option (Option Due)) (ds : List D) (d : D) : Prop := due ds = some none ∧ d = .non
/-- a door, refused -/
def RnoD (due : List D → Option (Option Due)) (ds : List D) (C : Addr) (fs : Option (List (Str × D))) : Prop := ∃ q : Due, due ds = some (some q) ∧ C = q.1 ∧ fs = some [(q.2.2.1, q.2.2.2)]
/-! ### _need_name -/
def R_nn (ds : List D) (d : D) : Prop := ∃ z, ds = [.str z] ∧ Small z 100 ∧ okN z = true ∧ d = .non
def R_nnX (C : Addr) (ds : List D) (D : Addr) (fs : Option (List (Str × Own.D))) : Prop := ∃ z, ds = [.str z] ∧ Small z 100 ∧ okN z = false ∧ D = C ∧ fs = some [(("name" : Str), .str z)]
theorem okN_len {z : Str} (h : okN z = true) : (1 : Int) ≤ z.length ∧ (z.length : Int) ≤ 6 := by
  unfold okN at h
  rw [Bool.and_eq_true, Bool.and_eq_true] at h
  exact ⟨of_decide_eq_true h.1.1, of_decide_eq_true h.1.2⟩
theorem okN_all {z : Str} (h : okN z = true) : ∀ c ∈ z.cps.toList, c ∈ abcL := by
  unfold okN at h
  rw [Bool.and_eq_true, List.all_eq_true] at h
  exact fun c hc => of_decide_eq_true (h.2 c hc)
theorem ok_need_name2 (T : Tx a K mg w) : FnOk P w K mg base CX0 1 a.f_need_name a.d_need_name ps_need_name (spD K false R_nn) := by
  refine okP T.F_need_name sc_need_name (fun ds d h => ?_) (fun cdv A outer s H X hr => ?_)
  · obtain ⟨z, rfl, _⟩ := h
    rfl
  · have hu := hu_of hr
    obtain ⟨tokX_MOST_LETTERS, mgX_MOST_LETTERS⟩ := T.mg_MOST_LETTERS
    obtain ⟨tokX_LETTERS, mgX_LETTERS⟩ := T.mg_LETTERS
    refine ⟨_, (pss_cons (ps_if (PW.pt (pw_or (pt_cmpR op_lt (pe_callB call_len_str (by rfl) T.no_len (by decide +kernel) (pa_cons (pv 0) pa_nil)) pe_int (nomark _)) (pw_or1 (pt_cmpR op_gt (pe_callB call_len_str (by rfl) T.no_len (by decide +kernel) (pa_cons (pv 0) pa_nil)) (pe_glob (v := V.int 6) rfl mgX_MOST_LETTERS ⟨_, rfl⟩) (nomark _))))) (pss_one ps_never) pss_nil)
      (pss_one (ps_for PassesOwn.never rfl (pi_str (pv 0)) (pg_name (i := 1) sc_need_name.nd rfl (by first | exact Or.inl rfl | exact Or.inr rfl))
        (pss_one (ps_if (pt_cmpR op_notInS (pv 1) (pe_glob (v := V.str "abcdefghijklmnopqrstuvwxyz") rfl mgX_LETTERS ⟨_, rfl⟩) (by rfl)) (pss_one ps_never) pss_nil))))), ?_⟩
    try simp only [cxK, Cx.nox, Cx.wish]
    rintro F ds d ⟨z, rfl, hz, ho, rfl⟩ -
    show Blk K F [.imm (.str z), .un] _ _
    have hl := okN_len ho
    have hsm := hz.len
    refine Blk.seq (ρ1 := [.imm (.str z), .un]) ?_ ?_
    · walk_at "ifF"
      · omega
      · omega
      · simp
        omega
      · exact .nx rfl
    · refine Blk.for_ (GvI.str (.var rfl)) (fun i r => ∃ v, r = [.imm (.str z), v]) ⟨_, rfl⟩ ?_ ?_
      · rintro i d ρ1 hd ⟨v, rfl⟩
        obtain ⟨c, hc, rfl⟩ := signs_at hd
        refine ⟨_, _, .name, ?_⟩
        walk_at "nrm"
        walk_at "ifF"
        · simp only [Bool.not_eq_false', decide_eq_true_eq]
          exact okN_all ho c hc
        · exact .nx ⟨_, rfl⟩
      · rintro _ ⟨v, rfl⟩
        exact rfl
theorem okx_need_name (T : Tx a K mg w) : FnOk P w K mg base (L2N.CX P w) 3 a.f_need_name a.d_need_name ps_need_name (spX K false (R_nnX a.C_BadName)) := by
  refine okX T.F_need_name sc_need_name (fun ds d fs h => ?_) (fun cdv A outer s H X hr => ?_)
  · obtain ⟨z, rfl, _⟩ := h
    rfl
  · have hu := hu_of hr
    obtain ⟨tokX_MOST_LETTERS, mgX_MOST_LETTERS⟩ := T.mg_MOST_LETTERS
    obtain ⟨tokX_LETTERS, mgX_LETTERS⟩ := T.mg_LETTERS
    have I_BadName := okI_BadName (P := P) (w := w) (base := base) T
    have BI_BadName := bndI_BadName T
    have hrI : Room 2 _ := hr.mono (by decide)
    refine ⟨_, (pss_cons (ps_if (PW.pt (pw_or (pt_cmpR op_lt (pe_callB call_len_str (by rfl) T.no_len (by decide +kernel) (pa_cons (pv 0) pa_nil)) pe_int (nomark _)) (pw_or1 (pt_cmpR op_gt (pe_callB call_len_str (by rfl) T.no_len (by decide +kernel) (pa_cons (pv 0) pa_nil)) (pe_glob (v := V.int 6) rfl mgX_MOST_LETTERS ⟨_, rfl⟩) (nomark _))))) (pss_one (L2N.ps_raise rfl (L2N.takes_of rfl rfl rfl rfl) (pmk_ox T.ox_BadName T.su_BadName.ini T.su_BadName.fty I_BadName hrI BI_BadName takesN (by rfl) T.mg_BadName (pa_cons (pv 0) pa_nil)))) pss_nil)
      (pss_one (ps_for (passes_of rfl) rfl (pi_str (pv 0)) (pg_name (i := 1) sc_need_name.nd rfl (by first | exact Or.inl rfl | exact Or.inr rfl))
        (pss_one (ps_if (pt_cmpR op_notInS (pv 1) (pe_glob (v := V.str "abcdefghijklmnopqrstuvwxyz") rfl mgX_LETTERS ⟨_, rfl⟩) (by rfl)) (pss_one (L2N.ps_raise rfl (L2N.takes_of rfl rfl rfl rfl) (pmk_ox T.ox_BadName T.su_BadName.ini T.su_BadName.fty I_BadName hrI BI_BadName takesN (by rfl) T.mg_BadName (pa_cons (pv 0) pa_nil)))) pss_nil))))), ?_⟩
    try simp only [cxK]
    rintro F ds C fs ⟨z, rfl, hz, ho, rfl, rfl⟩ - hw
    show Blk K F [.imm (.str z), .un] _ _
    have hsm := hz.len
    have lenE : ∀ {ρ : List Own.Slot}, ρ[0]? = some (.imm (.str z)) → GvE K F ρ (tCB (fun xs H Q => ∃ z : Str, xs = [V.str z] ∧ z.length ≤ sizeLine ∧ Q (V.int z.length) H) (tCons (tVar 0) tNil)) (.int z.length) := fun h => .cb (GvA.cons (.var h) .nil) (rc_lenS (show z.length ≤ 16777216 by omega))
    by_cases hl : (1 : Int) ≤ z.length ∧ (z.length : Int) ≤ 6
    · refine Blk.seq (ρ1 := [.imm (.str z), .un]) (Blk.ifF (GvT.cast (GvT.or (b := false) (c := false) (GvT.cast (GvT.test (GvE.op (lenE rfl) .int rl_lt)) (by rw [decide_eq_false_iff_not]; omega)) fun _ => GvT.cast (GvT.test (GvE.op (lenE rfl) .int rl_gt)) (by rw [decide_eq_false_iff_not]; omega)) rfl) (.nx rfl)) ?_
      refine Blk.for_ (GvI.str (.var rfl)) (fun i r => (∃ v, r = [.imm (.str z), v]) ∧ ∀ c ∈ z.cps.toList.take i, c ∈ abcL) ⟨⟨_, rfl⟩, fun c hc => by rw [List.take_zero] at hc; cases hc⟩ ?_ ?_
      · rintro i d ρ1 hd ⟨⟨v, rfl⟩, hall⟩
        obtain ⟨c, hc, rfl⟩ := map_at hd
        refine ⟨_, _, .name, ?_⟩
        walk_at "nrm"
        by_cases hin : c ∈ abcL
        · refine Blk.ifF (GvT.cast (GvT.test (GvE.op (.var rfl) .str rl_ninS)) (by simp only [Bool.not_eq_false', decide_eq_true_eq]; exact hin)) (.nx ⟨⟨_, rfl⟩, fun e he => ?_⟩)
          rw [List.take_succ, hc] at he
          rcases List.mem_append.mp he with he | he
          · exact hall e he
          · have : e = c := by simpa using he
            rw [this]; exact hin
        · exact Blk.ifT (GvT.cast (GvT.test (GvE.op (.var rfl) .str rl_ninS)) (by simp only [Bool.not_eq_true', decide_eq_false_iff_not]; exact hin)) (Blk.raiseS (GvA.cons (.var rfl) .nil) (at_txt hz (by decide)) hw)
      · rintro _ ⟨_, hall⟩
        have : okN z = true := by
          unfold okN
          rw [decide_eq_true hl.1, decide_eq_true hl.2, Bool.true_and, Bool.true_and, List.all_eq_true]
          intro c hc
          refine decide_eq_true (hall c ?_)
          rw [show (GvI.signs z).length = z.cps.toList.length by simp [GvI.signs], List.take_length]
          exact hc
        rw [ho] at this
        cases this
    · refine Blk.seqN (N := fun _ => False) (Blk.ifT (GvT.cast (GvT.or (b := decide ((z.length : Int) < 1)) (c := decide (6 < (z.length : Int))) (GvT.test (GvE.op (lenE rfl) .int rl_lt)) fun _ => GvT.test (GvE.op (lenE rfl) .int rl_gt)) ?_) (Blk.raiseS (GvA.cons (.var rfl) .nil) (at_txt hz (by decide)) hw)) fun _ z => z.elim
      rw [Bool.or_eq_true, decide_eq_true_eq, decide_eq_true_eq]
      omega
theorem okG_need_name (T : Tx a K mg w) : FnOk P w K mg base (L2N.CX P w) 3 a.f_need_name a.d_need_name ps_need_name (orS (spD K false R_nn) (spX K false (R_nnX a.C_BadName))) := FnOk.orX (ok_need_name2 T) (okx_need_name T) (by decide)

end
end My

set_option Elab.async false
set_option maxRecDepth 100000
set_option maxHeartbeats 4000000
set_option linter.all false
namespace My
open PySem L2 Own
section
variable {P : Program} [PO P] {w : World} {K : PySem.W.Frag} {mg : Str → Option Value} {base : Heap} {a : Adr}
local macro_rules | `(tactic| walk_at "gv") => `(tactic| first
  | (with_reducible first | exact GvE.int | exact GvE.str | exact GvE.bl | exact GvE.non | exact GvE.glob | exact GvE.ty | exact GvA.nil | exact GvT.yes | exact GvO.no | exact GvE.dnew)
  | ((with_reducible apply GvE.var); rfl)
  | ((with_reducible apply GvA.cons) <;> walk_at "gv")
  | ((with_reducible apply GvE.op) <;> walk_at "gv")
  | ((with_reducible first | apply rl_add | apply rl_sub | apply rl_lt | apply rl_le | apply rl_gt | apply rl_ge | apply rl_eqI | apply rl_eqS | apply rl_neI | apply rl_neS | apply rl_neg | apply rl_slL | apply rl_slT | apply rl_inL | apply rl_ninL | apply rl_inT | apply rl_ninT | apply rl_inS | apply rl_ninS | apply rl_isN | apply rl_notN | apply rc_abs | apply rc_max | apply rc_min | apply rc_tupL | apply rc_all | apply rc_any | apply rc_sum | apply rm_starts | apply rc_len (.inl rfl) | apply rc_len (.inr rfl) | apply rc_list (.inl rfl) | apply rc_list (.inr rfl) | apply rl_I | apply rl_cat | apply rl_catT | apply rl_catS | apply rl_ixL | apply rl_ixT | apply rl_ixS | apply rl_ixK | apply rl_slS | apply rc_lenS | apply rc_strI) <;> try first | decide | exact ⟨by decide, by decide⟩ | exact ⟨by decide, by decide, by decide⟩ | with_reducible (first | exact atI_0 | exact atI_1 | exact atI_2 | exact atI_3 | exact atI_4 | exact atI_5))
  | ((with_reducible apply GvE.cb) <;> walk_at "gv")
  | ((with_reducible apply GvE.un) <;> walk_at "gv")
  | ((with_reducible apply GvE.sl) <;> walk_at "gv")
  | ((with_reducible apply GvO.of) <;> walk_at "gv")
  | ((with_reducible apply GvE.m1) <;> walk_at "gv")
  | ((with_reducible apply GvE.m0) <;> walk_at "gv")
  | ((with_reducible apply GvE.tup) <;> walk_at "gv")
  | ((with_reducible apply GvE.lst) <;> walk_at "gv")
  | ((with_reducible apply GvT.test) <;> walk_at "gv")
  | ((with_reducible apply GvT.val) <;> walk_at "gv")
  | ((with_reducible apply GvT.not) <;> walk_at "gv")
  | ((with_reducible apply GvE.notV) <;> walk_at "gv")
  | ((with_reducible apply GvE.call) <;> walk_at "gv")
  | ((with_reducible first | apply GvT.and | apply GvT.or | apply GvE.andV | apply GvE.orV) <;> first | (intro _; walk_at "gv") | walk_at "gv")
  | decide | exact Nat.le_of_ble_eq_true rfl | skip)
local macro_rules | `(tactic| walk_at "nrm") => `(tactic| try simp only [List.set_cons_zero, List.set_cons_succ])
local macro_rules | `(tactic| walk_at "set") => `(tactic| first | ((with_reducible apply Blk.set_); focus walk_at "gv") | skip)
local macro_rules | `(tactic| walk_at "ret") => `(tactic| first | ((with_reducible apply Blk.ret); focus walk_at "gv") | skip)
local macro_rules | `(tactic| walk_at "if") => `(tactic| first | ((with_reducible apply Blk.ifS); focus walk_at "gv") | skip)
local macro_rules | `(tactic| walk_at "asg") => `(tactic| first | ((with_reducible apply Blk.asg); focus walk_at "gv") | skip)
local macro_rules | `(tactic| walk_at "setG") => `(tactic| first | ((with_reducible apply Blk.setG); focus walk_at "gv") | skip)
local macro_rules | `(tactic| walk_at "app") => `(tactic| first | (((with_reducible apply Blk.append); focus rfl); focus walk_at "gv") | skip)
local macro_rules | `(tactic| walk_at "gg") => `(tactic| first
  | (with_reducible first | exact GvG.name | exact GvG.nil)
  | ((with_reducible apply GvG.cons) <;> walk_at "gg")
  | ((with_reducible first | apply GvG.tup | apply GvG.unl) <;> walk_at "gg")
  | decide | rfl | skip)
local macro_rules | `(tactic| walk_at "ifF") => `(tactic| first | ((with_reducible apply Blk.ifF); focus ((with_reducible apply GvT.cast); focus walk_at "gv")) | skip)
local macro_rules | `(tactic| walk_at "ifT") => `(tactic| first | ((with_reducible apply Blk.ifT); focus ((with_reducible apply GvT.cast); focus walk_at "gv")) | skip)
local macro_rules | `(tactic| walk_at "expr") => `(tactic| first | ((with_reducible apply Blk.expr); focus walk_at "gv") | skip)

/-! ### _law_name_ok -/
def R_name_ok (ds : List D) (d : D) : Prop := ∃ z, ds = [.str z] ∧ Small z 100 ∧ d = .bl (okN z)
theorem ok_l_name_ok (T : Tx a K mg w) : FnOk P w K mg base CX0 1 a.f_l_name_ok a.d_l_name_ok ps_l_name_ok (spD K false R_name_ok) := by
  refine okP T.F_l_name_ok sc_l_name_ok (fun ds d h => ?_) (fun cdv A outer s H X hr => ?_)
  · obtain ⟨z, rfl, _⟩ := h
    rfl
  · have hu := hu_of hr
    refine ⟨_, (pss_one (ps_ret (pe_and (pe_chain op_le op_le pe_int (pe_callB call_len_str (by rfl) T.no_len (by decide +kernel) (pa_cons (pv 0) pa_nil)) pe_int) (pe_one (pe_callB (cr_all rfl) (by rfl) T.no_all (by decide +kernel) (pa_cons (pe_lc (own := [("_law_sign", 1)]) rfl sc_l_name_ok.nd (pi_str (pv 0)) (blkOk_by (own := [("_law_sign", 1)]) (N := N_l_name_ok) (sc := defScope s_l_name_ok) (by decide +kernel)) (fun _ _ _ _ _ => (pg_name (i := 1) sc_l_name_ok.nd rfl (Or.inl rfl))) (fun _ _ _ _ _ => pts_nil) (fun _ _ _ _ _ => (pe_cmpR op_inS (pv 1) pe_str (by rfl)))) pa_nil)))))), ?_⟩
    try simp only [cxK, Cx.nox, Cx.wish]
    rintro F ds d ⟨z, rfl, hl, rfl⟩ -
    show Blk K F [.imm (.str z), .un] _ _
    have hz := hl.len
    refine Blk.ret (d := .bl ((decide ((1 : Int) ≤ z.length) && decide ((z.length : Int) ≤ 6)) && (z.cps.toList.map fun c => decide (c ∈ (Str.ofString "abcdefghijklmnopqrstuvwxyz").cps.toList)).all id)) ?_ ?_
    · refine GvE.andV (GvE.chain .int (.cb (GvA.cons (.var rfl) .nil) (rc_lenS (by omega))) rl_le (fun _ => .int) rl_le) fun _ => ?_
      refine GvE.cb (GvA.cons (GvE.lcM (xs := z.cps.toList) (fun c => .bl (decide (c ∈ (Str.ofString "abcdefghijklmnopqrstuvwxyz").cps.toList))) (GvI.str (.var rfl)) (by rw [← len_list]; omega) (fun c _ => ⟨_, .name, by simp, GvE.op (.var rfl) .str rl_inS⟩) rfl) .nil) ?_
      rw [show z.cps.toList.map (fun c => D.bl (decide (c ∈ (Str.ofString "abcdefghijklmnopqrstuvwxyz").cps.toList))) = (z.cps.toList.map fun c => decide (c ∈ (Str.ofString "abcdefghijklmnopqrstuvwxyz").cps.toList)).map D.bl by rw [List.map_map]; rfl]
      exact rc_all
    · show D.bl _ = D.bl _
      unfold okN abcL
      rw [List.all_map]
      rfl

end
end My

set_option Elab.async false
set_option maxRecDepth 100000
set_option maxHeartbeats 4000000
set_option linter.all false
namespace My
open PySem L2 Own
section
variable {P : Program} [PO P] {w : World} {K : PySem.W.Frag} {mg : Str → Option Value} {base : Heap} {a : Adr}
local macro_rules | `(tactic| walk_at "gv") => `(tactic| first
  | (with_reducible first | exact GvE.int | exact GvE.str | exact GvE.bl | exact GvE.non | exact GvE.glob | exact GvE.ty | exact GvA.nil | exact GvT.yes | exact GvO.no | exact GvE.dnew)
  | ((with_reducible apply GvE.var); rfl)
  | ((with_reducible apply GvA.cons) <;> walk_at "gv")
  | ((with_reducible apply GvE.op) <;> walk_at "gv")
  | ((with_reducible first | apply rl_add | apply rl_sub | apply rl_lt | apply rl_le | apply rl_gt | apply rl_ge | apply rl_eqI | apply rl_eqS | apply rl_neI | apply rl_neS | apply rl_neg | apply rl_slL | apply rl_slT | apply rl_inL | apply rl_ninL | apply rl_inT | apply rl_ninT | apply rl_inS | apply rl_ninS | apply rl_isN | apply rl_notN | apply rc_abs | apply rc_max | apply rc_min | apply rc_tupL | apply rc_all | apply rc_any | apply rc_sum | apply rm_starts | apply rc_len (.inl rfl) | apply rc_len (.inr rfl) | apply rc_list (.inl rfl) | apply rc_list (.inr rfl) | apply rl_I | apply rl_cat | apply rl_catT | apply rl_catS | apply rl_ixL | apply rl_ixT | apply rl_ixS | apply rl_ixK | apply rl_slS | apply rc_lenS | apply rc_strI) <;> try first | decide | exact ⟨by decide, by decide⟩ | exact ⟨by decide, by decide, by decide⟩ | with_reducible (first | exact atI_0 | exact atI_1 | exact atI_2 | exact atI_3 | exact atI_4 | exact atI_5))
  | ((with_reducible apply GvE.cb) <;> walk_at "gv")
  | ((with_reducible apply GvE.un) <;> walk_at "gv")
  | ((with_reducible apply GvE.sl) <;> walk_at "gv")
  | ((with_reducible apply GvO.of) <;> walk_at "gv")
  | ((with_reducible apply GvE.m1) <;> walk_at "gv")
  | ((with_reducible apply GvE.m0) <;> walk_at "gv")
  | ((with_reducible apply GvE.tup) <;> walk_at "gv")
  | ((with_reducible apply GvE.lst) <;> walk_at "gv")
  | ((with_reducible apply GvT.test) <;> walk_at "gv")
  | ((with_reducible apply GvT.val) <;> walk_at "gv")
  | ((with_reducible apply GvT.not) <;> walk_at "gv")
  | ((with_reducible apply GvE.notV) <;> walk_at "gv")
  | ((with_reducible apply GvE.call) <;> walk_at "gv")
  | ((with_reducible first | apply GvT.and | apply GvT.or | apply GvE.andV | apply GvE.orV) <;> first | (intro _; walk_at "gv") | walk_at "gv")
  | decide | exact Nat.le_of_ble_eq_true rfl | skip)
local macro_rules | `(tactic| walk_at "nrm") => `(tactic| try simp only [List.set_cons_zero, List.set_cons_succ])
local macro_rules | `(tactic| walk_at "set") => `(tactic| first | ((with_reducible apply Blk.set_); focus walk_at "gv") | skip)
local macro_rules | `(tactic| walk_at "ret") => `(tactic| first | ((with_reducible apply Blk.ret); focus walk_at "gv") | skip)
local macro_rules | `(tactic| walk_at "if") => `(tactic| first | ((with_reducible apply Blk.ifS); focus walk_at "gv") | skip)
local macro_rules | `(tactic| walk_at "asg") => `(tactic| first | ((with_reducible apply Blk.asg); focus walk_at "gv") | skip)
local macro_rules | `(tactic| walk_at "setG") => `(tactic| first | ((with_reducible apply Blk.setG); focus walk_at "gv") | skip)
local macro_rules | `(tactic| walk_at "app") => `(tactic| first | (((with_reducible apply Blk.append); focus rfl); focus walk_at "gv") | skip)
local macro_rules | `(tactic| walk_at "gg") => `(tactic| first
  | (with_reducible first | exact GvG.name | exact GvG.nil)
  | ((with_reducible apply GvG.cons) <;> walk_at "gg")
  | ((with_reducible first | apply GvG.tup | apply GvG.unl) <;> walk_at "gg")
  | decide | rfl | skip)
local macro_rules | `(tactic| walk_at "ifF") => `(tactic| first | ((with_reducible apply Blk.ifF); focus ((with_reducible apply GvT.cast); focus walk_at "gv")) | skip)
local macro_rules | `(tactic| walk_at "ifT") => `(tactic| first | ((with_reducible apply Blk.ifT); focus ((with_reducible apply GvT.cast); focus walk_at "gv")) | skip)
local macro_rules | `(tactic| walk_at "expr") => `(tactic| first | ((with_reducible apply Blk.expr); focus walk_at "gv") | skip)

/-! ### _law_kin, _law_field -/
def roofW (_ : Str) : Bool := true
def missW (_ : Str) : Bool := false
/-- what the text says of the exception's class -/
structure KdF (a : Adr) (K : PySem.W.Frag) (D : Addr) (word : Str) : Prop where
  xc : ExcC K D
  k_BadName : PySem.W.kitOne K (.ref D) (.ref a.C_BadName) = some (decide (("BadName" : Str) = word))
  k_BadDay : PySem.W.kitOne K (.ref D) (.ref a.C_BadDay) = some (decide (("BadDay" : Str) = word))
  k_Taken : PySem.W.kitOne K (.ref D) (.ref a.C_Taken) = some (decide (("Taken" : Str) = word))
  k_BadNumber : PySem.W.kitOne K (.ref D) (.ref a.C_BadNumber) = some (decide (("BadNumber" : Str) = word))
  k_BadCount : PySem.W.kitOne K (.ref D) (.ref a.C_BadCount) = some (decide (("BadCount" : Str) = word))
  k_BadDeed : PySem.W.kitOne K (.ref D) (.ref a.C_BadDeed) = some (decide (("BadDeed" : Str) = word))
  k_Clash : PySem.W.kitOne K (.ref D) (.ref a.C_Clash) = some (decide (("Clash" : Str) = word))
  k_Full : PySem.W.kitOne K (.ref D) (.ref a.C_Full) = some (decide (("Full" : Str) = word))
  k_Short : PySem.W.kitOne K (.ref D) (.ref a.C_Short) = some (decide (("Short" : Str) = word))
  k_Ring : PySem.W.kitOne K (.ref D) (.ref a.C_Ring) = some (decide (("Ring" : Str) = word))
  k_NoRow : PySem.W.kitOne K (.ref D) (.ref a.C_NoRow) = some (decide (("NoRow" : Str) = word))
  k_BadText : PySem.W.kitOne K (.ref D) (.ref a.C_BadText) = some (decide (("BadText" : Str) = word))
  k_BadForm : PySem.W.kitOne K (.ref D) (.ref a.C_BadForm) = some (decide (("BadForm" : Str) = word))
  k_NoHouse : PySem.W.kitOne K (.ref D) (.ref a.C_NoHouse) = some (decide (("NoHouse" : Str) = word))
  k_NoCoin : PySem.W.kitOne K (.ref D) (.ref a.C_NoCoin) = some (decide (("NoCoin" : Str) = word))
  k_NoTelling : PySem.W.kitOne K (.ref D) (.ref a.C_NoTelling) = some (decide (("NoTelling" : Str) = word))
  k_NotRuled : PySem.W.kitOne K (.ref D) (.ref a.C_NotRuled) = some (decide (("NotRuled" : Str) = word))
  k_NoMeasure : PySem.W.kitOne K (.ref D) (.ref a.C_NoMeasure) = some (decide (("NoMeasure" : Str) = word))
  k_Nothing : PySem.W.kitOne K (.ref D) (.ref a.C_Nothing) = some (decide (("Nothing" : Str) = word))
  roof : PySem.W.kitOne K (.ref D) (.ref a.C_RoofError) = some (roofW word)
  miss : PySem.W.kitOne K (.ref D) (.ref a.C_Missing) = some (missW word)
  ve : PySem.W.kitOne K (.ref D) (.type "ValueError") = some (roofW word)
  le : PySem.W.kitOne K (.ref D) (.type "LookupError") = some (missW word)
  zd : PySem.W.kitOne K (.ref D) (.type "ZeroDivisionError") = some false
  ie : PySem.W.kitOne K (.ref D) (.type "IndexError") = some false
  n_name : PySem.W.findIn K (.ref D) "name" = some none
  n_day : PySem.W.findIn K (.ref D) "day" = some none
  n_count : PySem.W.findIn K (.ref D) "count" = some none
  n_number : PySem.W.findIn K (.ref D) "number" = some none
  n_line : PySem.W.findIn K (.ref D) "line" = some none
theorem kd_BadName (T : Tx a K mg w) : KdF a K a.C_BadName "BadName" := ⟨T.xc_BadName, (T.kit_BadName_BadName).trans (by decide +kernel), (T.kit_BadName_BadDay).trans (by decide +kernel), (T.kit_BadName_Taken).trans (by decide +kernel), (T.kit_BadName_BadNumber).trans (by decide +kernel), (T.kit_BadName_BadCount).trans (by decide +kernel), (T.kit_BadName_BadDeed).trans (by decide +kernel), (T.kit_BadName_Clash).trans (by decide +kernel), (T.kit_BadName_Full).trans (by decide +kernel), (T.kit_BadName_Short).trans (by decide +kernel), (T.kit_BadName_Ring).trans (by decide +kernel), (T.kit_BadName_NoRow).trans (by decide +kernel), (T.kit_BadName_BadText).trans (by decide +kernel), (T.kit_BadName_BadForm).trans (by decide +kernel), (T.kit_BadName_NoHouse).trans (by decide +kernel), (T.kit_BadName_NoCoin).trans (by decide +kernel), (T.kit_BadName_NoTelling).trans (by decide +kernel), (T.kit_BadName_NotRuled).trans (by decide +kernel), (T.kit_BadName_NoMeasure).trans (by decide +kernel), (T.kit_BadName_Nothing).trans (by decide +kernel), (T.kit_BadName_RoofError).trans (by decide +kernel), (T.kit_BadName_Missing).trans (by decide +kernel), (T.kit_BadName_ValueError).trans (by decide +kernel), (T.kit_BadName_LookupError).trans (by decide +kernel), T.kit_BadName_ZeroDivisionError, T.kit_BadName_IndexError, T.nf_BadName_name, T.nf_BadName_day, T.nf_BadName_count, T.nf_BadName_number, T.nf_BadName_line⟩
theorem kd_Taken (T : Tx a K mg w) : KdF a K a.C_Taken "Taken" := ⟨T.xc_Taken, (T.kit_Taken_BadName).trans (by decide +kernel), (T.kit_Taken_BadDay).trans (by decide +kernel), (T.kit_Taken_Taken).trans (by decide +kernel), (T.kit_Taken_BadNumber).trans (by decide +kernel), (T.kit_Taken_BadCount).trans (by decide +kernel), (T.kit_Taken_BadDeed).trans (by decide +kernel), (T.kit_Taken_Clash).trans (by decide +kernel), (T.kit_Taken_Full).trans (by decide +kernel), (T.kit_Taken_Short).trans (by decide +kernel), (T.kit_Taken_Ring).trans (by decide +kernel), (T.kit_Taken_NoRow).trans (by decide +kernel), (T.kit_Taken_BadText).trans (by decide +kernel), (T.kit_Taken_BadForm).trans (by decide +kernel), (T.kit_Taken_NoHouse).trans (by decide +kernel), (T.kit_Taken_NoCoin).trans (by decide +kernel), (T.kit_Taken_NoTelling).trans (by decide +kernel), (T.kit_Taken_NotRuled).trans (by decide +kernel), (T.kit_Taken_NoMeasure).trans (by decide +kernel), (T.kit_Taken_Nothing).trans (by decide +kernel), (T.kit_Taken_RoofError).trans (by decide +kernel), (T.kit_Taken_Missing).trans (by decide +kernel), (T.kit_Taken_ValueError).trans (by decide +kernel), (T.kit_Taken_LookupError).trans (by decide +kernel), T.kit_Taken_ZeroDivisionError, T.kit_Taken_IndexError, T.nf_Taken_name, T.nf_Taken_day, T.nf_Taken_count, T.nf_Taken_number, T.nf_Taken_line⟩
theorem kd_BadNumber (T : Tx a K mg w) : KdF a K a.C_BadNumber "BadNumber" := ⟨T.xc_BadNumber, (T.kit_BadNumber_BadName).trans (by decide +kernel), (T.kit_BadNumber_BadDay).trans (by decide +kernel), (T.kit_BadNumber_Taken).trans (by decide +kernel), (T.kit_BadNumber_BadNumber).trans (by decide +kernel), (T.kit_BadNumber_BadCount).trans (by decide +kernel), (T.kit_BadNumber_BadDeed).trans (by decide +kernel), (T.kit_BadNumber_Clash).trans (by decide +kernel), (T.kit_BadNumber_Full).trans (by decide +kernel), (T.kit_BadNumber_Short).trans (by decide +kernel), (T.kit_BadNumber_Ring).trans (by decide +kernel), (T.kit_BadNumber_NoRow).trans (by decide +kernel), (T.kit_BadNumber_BadText).trans (by decide +kernel), (T.kit_BadNumber_BadForm).trans (by decide +kernel), (T.kit_BadNumber_NoHouse).trans (by decide +kernel), (T.kit_BadNumber_NoCoin).trans (by decide +kernel), (T.kit_BadNumber_NoTelling).trans (by decide +kernel), (T.kit_BadNumber_NotRuled).trans (by decide +kernel), (T.kit_BadNumber_NoMeasure).trans (by decide +kernel), (T.kit_BadNumber_Nothing).trans (by decide +kernel), (T.kit_BadNumber_RoofError).trans (by decide +kernel), (T.kit_BadNumber_Missing).trans (by decide +kernel), (T.kit_BadNumber_ValueError).trans (by decide +kernel), (T.kit_BadNumber_LookupError).trans (by decide +kernel), T.kit_BadNumber_ZeroDivisionError, T.kit_BadNumber_IndexError, T.nf_BadNumber_name, T.nf_BadNumber_day, T.nf_BadNumber_count, T.nf_BadNumber_number, T.nf_BadNumber_line⟩
theorem kd_BadCount (T : Tx a K mg w) : KdF a K a.C_BadCount "BadCount" := ⟨T.xc_BadCount, (T.kit_BadCount_BadName).trans (by decide +kernel), (T.kit_BadCount_BadDay).trans (by decide +kernel), (T.kit_BadCount_Taken).trans (by decide +kernel), (T.kit_BadCount_BadNumber).trans (by decide +kernel), (T.kit_BadCount_BadCount).trans (by decide +kernel), (T.kit_BadCount_BadDeed).trans (by decide +kernel), (T.kit_BadCount_Clash).trans (by decide +kernel), (T.kit_BadCount_Full).trans (by decide +kernel), (T.kit_BadCount_Short).trans (by decide +kernel), (T.kit_BadCount_Ring).trans (by decide +kernel), (T.kit_BadCount_NoRow).trans (by decide +kernel), (T.kit_BadCount_BadText).trans (by decide +kernel), (T.kit_BadCount_BadForm).trans (by decide +kernel), (T.kit_BadCount_NoHouse).trans (by decide +kernel), (T.kit_BadCount_NoCoin).trans (by decide +kernel), (T.kit_BadCount_NoTelling).trans (by decide +kernel), (T.kit_BadCount_NotRuled).trans (by decide +kernel), (T.kit_BadCount_NoMeasure).trans (by decide +kernel), (T.kit_BadCount_Nothing).trans (by decide +kernel), (T.kit_BadCount_RoofError).trans (by decide +kernel), (T.kit_BadCount_Missing).trans (by decide +kernel), (T.kit_BadCount_ValueError).trans (by decide +kernel), (T.kit_BadCount_LookupError).trans (by decide +kernel), T.kit_BadCount_ZeroDivisionError, T.kit_BadCount_IndexError, T.nf_BadCount_name, T.nf_BadCount_day, T.nf_BadCount_count, T.nf_BadCount_number, T.nf_BadCount_line⟩
def words4 : List Str := ["BadName", "Taken", "BadNumber", "BadCount"]
def prD (x : Str × Bool) : D := .tup [.str x.1, .bl x.2]
def kinN : List Str := ["BadName", "BadDay", "Taken", "BadNumber", "BadCount", "BadDeed", "Clash", "Full", "Short", "Ring", "NoRow", "BadText", "BadForm", "NoHouse", "NoCoin", "NoTelling", "NotRuled", "NoMeasure", "Nothing"]
def RW (word : Str) (n : Nat) : List (Str × Bool) := (kinN.take n).map fun z => (z, decide (z = word))
theorem RW_found {word : Str} (h : word ∈ words4) : ((RW word 19).filter fun x => x.2).map (fun x => D.str x.1) = [.str word] := by
  unfold words4 at h
  simp only [List.mem_cons, List.not_mem_nil, or_false] at h
  have key : (RW word 19).filter (fun x => x.2) = [(word, true)] := by
    rcases h with rfl | rfl | rfl | rfl <;> decide +kernel
  rw [key]
  rfl
def R_kin (a : Adr) (K : PySem.W.Frag) (x : Addr) (c : Value) (fs : Option (List (Str × D))) (ds : List D) (r : D) : Prop := ∃ D word fld g, ds = [.at_ x] ∧ c = .ref D ∧ fs = some [(fld, g)] ∧ KdF a K D word ∧ word ∈ words4 ∧ r = .str word
theorem ok_l_kin (T : Tx a K mg w) : FnHp P w K mg base 1 a.f_l_kin a.d_l_kin ps_l_kin (spHx K (R_kin a K)) := by
  refine okHx T.F_l_kin sc_l_kin (fun x c fs ds r h => ?_) (fun cdv A outer s H X p c d hot hz hr fs0 hex => ?_)
  · obtain ⟨D, word, fld, g, rfl, _⟩ := h
    rfl
  · obtain ⟨ds0, r0, I0, x0, D, word0, fld0, g0, _, rfl, rfl, KF0, _⟩ := hex
    obtain ⟨dd, ws0, rfl, _⟩ := x0
    have EC := KF0.xc
    have hf : ∃ vs, p.2.data = .fields vs := by
      obtain ⟨_, vs, e, _⟩ := hot
      exact ⟨vs, e⟩
    refine ⟨_, (pss_cons (ps_set (i := 1) sc_l_kin.nd rfl (by first | exact Or.inl rfl | exact Or.inr rfl) (pe_lst (pa_cons (pe_tup (pa_cons pe_str (pa_cons (pe_callB (call_isD (oe := p.2) EC List.mem_cons_self hz hf) (by rfl) T.no_isinstance (by decide +kernel) (pa_cons (pv 0) (pa_cons (pe_glob (v := V.ref a.C_BadName) rfl T.mg_BadName rfl) pa_nil))) pa_nil))) (pa_cons (pe_tup (pa_cons pe_str (pa_cons (pe_callB (call_isD (oe := p.2) EC List.mem_cons_self hz hf) (by rfl) T.no_isinstance (by decide +kernel) (pa_cons (pv 0) (pa_cons (pe_glob (v := V.ref a.C_BadDay) rfl T.mg_BadDay rfl) pa_nil))) pa_nil))) (pa_cons (pe_tup (pa_cons pe_str (pa_cons (pe_callB (call_isD (oe := p.2) EC List.mem_cons_self hz hf) (by rfl) T.no_isinstance (by decide +kernel) (pa_cons (pv 0) (pa_cons (pe_glob (v := V.ref a.C_Taken) rfl T.mg_Taken rfl) pa_nil))) pa_nil))) pa_nil)))))
      (pss_cons (ps_set (i := 1) sc_l_kin.nd rfl (by first | exact Or.inl rfl | exact Or.inr rfl) (pe_op op_cat (pv 1) (pe_lst (pa_cons (pe_tup (pa_cons pe_str (pa_cons (pe_callB (call_isD (oe := p.2) EC List.mem_cons_self hz hf) (by rfl) T.no_isinstance (by decide +kernel) (pa_cons (pv 0) (pa_cons (pe_glob (v := V.ref a.C_BadNumber) rfl T.mg_BadNumber rfl) pa_nil))) pa_nil))) (pa_cons (pe_tup (pa_cons pe_str (pa_cons (pe_callB (call_isD (oe := p.2) EC List.mem_cons_self hz hf) (by rfl) T.no_isinstance (by decide +kernel) (pa_cons (pv 0) (pa_cons (pe_glob (v := V.ref a.C_BadCount) rfl T.mg_BadCount rfl) pa_nil))) pa_nil))) pa_nil)))))
      (pss_cons (ps_set (i := 1) sc_l_kin.nd rfl (by first | exact Or.inl rfl | exact Or.inr rfl) (pe_op op_cat (pv 1) (pe_lst (pa_cons (pe_tup (pa_cons pe_str (pa_cons (pe_callB (call_isD (oe := p.2) EC List.mem_cons_self hz hf) (by rfl) T.no_isinstance (by decide +kernel) (pa_cons (pv 0) (pa_cons (pe_glob (v := V.ref a.C_BadDeed) rfl T.mg_BadDeed rfl) pa_nil))) pa_nil))) (pa_cons (pe_tup (pa_cons pe_str (pa_cons (pe_callB (call_isD (oe := p.2) EC List.mem_cons_self hz hf) (by rfl) T.no_isinstance (by decide +kernel) (pa_cons (pv 0) (pa_cons (pe_glob (v := V.ref a.C_Clash) rfl T.mg_Clash rfl) pa_nil))) pa_nil))) (pa_cons (pe_tup (pa_cons pe_str (pa_cons (pe_callB (call_isD (oe := p.2) EC List.mem_cons_self hz hf) (by rfl) T.no_isinstance (by decide +kernel) (pa_cons (pv 0) (pa_cons (pe_glob (v := V.ref a.C_Full) rfl T.mg_Full rfl) pa_nil))) pa_nil))) pa_nil))))))
      (pss_cons (ps_set (i := 1) sc_l_kin.nd rfl (by first | exact Or.inl rfl | exact Or.inr rfl) (pe_op op_cat (pv 1) (pe_lst (pa_cons (pe_tup (pa_cons pe_str (pa_cons (pe_callB (call_isD (oe := p.2) EC List.mem_cons_self hz hf) (by rfl) T.no_isinstance (by decide +kernel) (pa_cons (pv 0) (pa_cons (pe_glob (v := V.ref a.C_Short) rfl T.mg_Short rfl) pa_nil))) pa_nil))) (pa_cons (pe_tup (pa_cons pe_str (pa_cons (pe_callB (call_isD (oe := p.2) EC List.mem_cons_self hz hf) (by rfl) T.no_isinstance (by decide +kernel) (pa_cons (pv 0) (pa_cons (pe_glob (v := V.ref a.C_Ring) rfl T.mg_Ring rfl) pa_nil))) pa_nil))) (pa_cons (pe_tup (pa_cons pe_str (pa_cons (pe_callB (call_isD (oe := p.2) EC List.mem_cons_self hz hf) (by rfl) T.no_isinstance (by decide +kernel) (pa_cons (pv 0) (pa_cons (pe_glob (v := V.ref a.C_NoRow) rfl T.mg_NoRow rfl) pa_nil))) pa_nil))) pa_nil))))))
      (pss_cons (ps_set (i := 1) sc_l_kin.nd rfl (by first | exact Or.inl rfl | exact Or.inr rfl) (pe_op op_cat (pv 1) (pe_lst (pa_cons (pe_tup (pa_cons pe_str (pa_cons (pe_callB (call_isD (oe := p.2) EC List.mem_cons_self hz hf) (by rfl) T.no_isinstance (by decide +kernel) (pa_cons (pv 0) (pa_cons (pe_glob (v := V.ref a.C_BadText) rfl T.mg_BadText rfl) pa_nil))) pa_nil))) (pa_cons (pe_tup (pa_cons pe_str (pa_cons (pe_callB (call_isD (oe := p.2) EC List.mem_cons_self hz hf) (by rfl) T.no_isinstance (by decide +kernel) (pa_cons (pv 0) (pa_cons (pe_glob (v := V.ref a.C_BadForm) rfl T.mg_BadForm rfl) pa_nil))) pa_nil))) pa_nil)))))
      (pss_cons (ps_set (i := 1) sc_l_kin.nd rfl (by first | exact Or.inl rfl | exact Or.inr rfl) (pe_op op_cat (pv 1) (pe_lst (pa_cons (pe_tup (pa_cons pe_str (pa_cons (pe_callB (call_isD (oe := p.2) EC List.mem_cons_self hz hf) (by rfl) T.no_isinstance (by decide +kernel) (pa_cons (pv 0) (pa_cons (pe_glob (v := V.ref a.C_NoHouse) rfl T.mg_NoHouse rfl) pa_nil))) pa_nil))) (pa_cons (pe_tup (pa_cons pe_str (pa_cons (pe_callB (call_isD (oe := p.2) EC List.mem_cons_self hz hf) (by rfl) T.no_isinstance (by decide +kernel) (pa_cons (pv 0) (pa_cons (pe_glob (v := V.ref a.C_NoCoin) rfl T.mg_NoCoin rfl) pa_nil))) pa_nil))) pa_nil)))))
      (pss_cons (ps_set (i := 1) sc_l_kin.nd rfl (by first | exact Or.inl rfl | exact Or.inr rfl) (pe_op op_cat (pv 1) (pe_lst (pa_cons (pe_tup (pa_cons pe_str (pa_cons (pe_callB (call_isD (oe := p.2) EC List.mem_cons_self hz hf) (by rfl) T.no_isinstance (by decide +kernel) (pa_cons (pv 0) (pa_cons (pe_glob (v := V.ref a.C_NoTelling) rfl T.mg_NoTelling rfl) pa_nil))) pa_nil))) (pa_cons (pe_tup (pa_cons pe_str (pa_cons (pe_callB (call_isD (oe := p.2) EC List.mem_cons_self hz hf) (by rfl) T.no_isinstance (by decide +kernel) (pa_cons (pv 0) (pa_cons (pe_glob (v := V.ref a.C_NotRuled) rfl T.mg_NotRuled rfl) pa_nil))) pa_nil))) pa_nil)))))
      (pss_cons (ps_set (i := 1) sc_l_kin.nd rfl (by first | exact Or.inl rfl | exact Or.inr rfl) (pe_op op_cat (pv 1) (pe_lst (pa_cons (pe_tup (pa_cons pe_str (pa_cons (pe_callB (call_isD (oe := p.2) EC List.mem_cons_self hz hf) (by rfl) T.no_isinstance (by decide +kernel) (pa_cons (pv 0) (pa_cons (pe_glob (v := V.ref a.C_NoMeasure) rfl T.mg_NoMeasure rfl) pa_nil))) pa_nil))) (pa_cons (pe_tup (pa_cons pe_str (pa_cons (pe_callB (call_isD (oe := p.2) EC List.mem_cons_self hz hf) (by rfl) T.no_isinstance (by decide +kernel) (pa_cons (pv 0) (pa_cons (pe_glob (v := V.ref a.C_Nothing) rfl T.mg_Nothing rfl) pa_nil))) pa_nil))) pa_nil)))))
      (pss_cons (ps_setLcH (i := 3) (own := [("_law_word", 2), ("_law_yes", 6)]) (g := gTup K 2 (gCons (gName 2) (gCons (gName 6) gNil))) ⟨p, hot, List.mem_cons_self⟩ sc_l_kin.nd rfl rfl (sw_true rfl rfl rfl (by decide +kernel)) ((pv 1)) (blkOk_by (own := [("_law_word", 2), ("_law_yes", 6)]) (N := N_l_kin) (sc := defScope s_l_kin) (by decide +kernel)) (fun _ _ _ _ _ _ ph => (pgh_tup ph (pgs_cons (pg_name (i := 2) sc_l_kin.nd rfl (Or.inl rfl) (Or.inr rfl)) (pgs_cons (pg_name (i := 6) sc_l_kin.nd rfl (Or.inl rfl) (Or.inr rfl)) pgs_nil)) (by rfl))) (fun _ _ _ _ _ => (pts_one (pt_val (pv 6)))) (fun _ _ _ _ _ => (pv 2)))
      (pss_cons (ps_if (pt_cmpR op_ne (pe_callB call_len_seq (by rfl) T.no_len (by decide +kernel) (pa_cons (pv 3) pa_nil)) pe_int (nomark _)) (pss_one (ps_ret pe_str)) pss_nil)
      (pss_cons (ps_set (i := 2) sc_l_kin.nd rfl (by first | exact Or.inl rfl | exact Or.inr rfl) (pe_ix ix_list (pv 3) pe_int (fun _ _ => rfl)))
      (pss_cons (ps_set (i := 4) sc_l_kin.nd rfl (by first | exact Or.inl rfl | exact Or.inr rfl) (pe_lst (pa_cons (pe_callB (call_isD (oe := p.2) EC List.mem_cons_self hz hf) (by rfl) T.no_isinstance (by decide +kernel) (pa_cons (pv 0) (pa_cons (pe_glob (v := V.ref a.C_RoofError) rfl T.mg_RoofError rfl) pa_nil))) (pa_cons (pe_callB (call_isD (oe := p.2) EC List.mem_cons_self hz hf) (by rfl) T.no_isinstance (by decide +kernel) (pa_cons (pv 0) (pa_cons (pe_glob (v := V.ref a.C_Missing) rfl T.mg_Missing rfl) pa_nil))) (pa_cons (pe_callB (call_isD (oe := p.2) EC List.mem_cons_self hz hf) (by rfl) T.no_isinstance (by decide +kernel) (pa_cons (pv 0) (pa_cons (pe_bltn (v := V.ty "ValueError") (by rfl) T.no_ValueError (by decide +kernel) rfl) pa_nil))) pa_nil)))))
      (pss_cons (ps_set (i := 4) sc_l_kin.nd rfl (by first | exact Or.inl rfl | exact Or.inr rfl) (pe_op op_cat (pv 4) (pe_lst (pa_cons (pe_callB (call_isD (oe := p.2) EC List.mem_cons_self hz hf) (by rfl) T.no_isinstance (by decide +kernel) (pa_cons (pv 0) (pa_cons (pe_bltn (v := V.ty "LookupError") (by rfl) T.no_LookupError (by decide +kernel) rfl) pa_nil))) (pa_cons (pe_callB (call_isD (oe := p.2) EC List.mem_cons_self hz hf) (by rfl) T.no_isinstance (by decide +kernel) (pa_cons (pv 0) (pa_cons (pe_bltn (v := V.ty "ZeroDivisionError") (by rfl) T.no_ZeroDivisionError (by decide +kernel) rfl) pa_nil))) (pa_cons (pe_callB (call_isD (oe := p.2) EC List.mem_cons_self hz hf) (by rfl) T.no_isinstance (by decide +kernel) (pa_cons (pv 0) (pa_cons (pe_bltn (v := V.ty "IndexError") (by rfl) T.no_IndexError (by decide +kernel) rfl) pa_nil))) pa_nil))))))
      (pss_cons (ps_set (i := 5) sc_l_kin.nd rfl (by first | exact Or.inl rfl | exact Or.inr rfl) (pe_lst (pa_cons pe_bl (pa_cons pe_bl (pa_cons pe_bl (pa_cons pe_bl (pa_cons pe_bl (pa_cons pe_bl pa_nil))))))))
      (pss_cons (ps_if (pt_cmpR op_in_seq (pv 2) (pe_tup (pa_cons pe_str (pa_cons pe_str (pa_cons pe_str (pa_cons pe_str (pa_cons pe_str pa_nil)))))) (by rfl)) (pss_one (ps_set (i := 5) sc_l_kin.nd rfl (by first | exact Or.inl rfl | exact Or.inr rfl) (pe_lst (pa_cons pe_bl (pa_cons pe_bl (pa_cons pe_bl (pa_cons pe_bl (pa_cons pe_bl (pa_cons pe_bl pa_nil))))))))) pss_nil)
      (pss_cons (ps_if (pt_cmpR op_in_seq (pv 2) (pe_tup (pa_cons pe_str (pa_cons pe_str pa_nil))) (by rfl)) (pss_one (ps_set (i := 5) sc_l_kin.nd rfl (by first | exact Or.inl rfl | exact Or.inr rfl) (pe_lst (pa_cons pe_bl (pa_cons pe_bl (pa_cons pe_bl (pa_cons (pe_cmpR op_eq (pv 2) pe_str (nomark _)) (pa_cons (pe_cmpR op_eq (pv 2) pe_str (nomark _)) (pa_cons (pe_cmpR op_eq (pv 2) pe_str (nomark _)) pa_nil))))))))) pss_nil)
      (pss_one (ps_ret (pe_ifExp (pt_cmpR (op_eqD hr.units) (pv 4) (pv 5) (nomark _)) (pv 2) pe_str))))))))))))))))))), ?_⟩
    try simp only [cxK, L2H.cxH, Cx.nox, Cx.wish]
    rintro F ds r xa ⟨D', word, fld, g, rfl, eD, -, KF, hw4, rfl⟩
    obtain rfl : D = D' := Value.ref.inj eD
    show Blk K F [.imm (.at_ p.1), .un, .un, .un, .un, .un, .un] _ _
    have isC : ∀ {ρ : List Own.Slot} {C : Addr} {b : Bool}, ρ[0]? = some (.imm (.at_ p.1)) → PySem.W.kitOne K (.ref D) (.ref C) = some b → GvE K F ρ (tCB (rIsD K D p.1 dd) (tCons (tVar 0) (tCons (tC (V.ref C)) tNil))) (.bl b) := fun h0 h => GvE.cb (GvA.cons (.var h0) (GvA.cons .glob .nil)) (rc_isD xa h)
    have isB : ∀ {ρ : List Own.Slot} {n : String} {b : Bool}, ρ[0]? = some (.imm (.at_ p.1)) → PySem.W.kitOne K (.ref D) (.type n) = some b → GvE K F ρ (tCB (rIsD K D p.1 dd) (tCons (tVar 0) (tCons (tC (V.ty n)) tNil))) (.bl b) := fun h0 h => GvE.cb (GvA.cons (.var h0) (GvA.cons .ty .nil)) (rc_isDb xa h)
    have pr : ∀ {ρ : List Own.Slot} {C : Addr} {b : Bool} {z : Str}, ρ[0]? = some (.imm (.at_ p.1)) → PySem.W.kitOne K (.ref D) (.ref C) = some b → GvE K F ρ (tTup (tCons (tC (V.str z)) (tCons (tCB (rIsD K D p.1 dd) (tCons (tVar 0) (tCons (tC (V.ref C)) tNil))) tNil))) (prD (z, b)) := fun h0 h => GvE.tup (GvA.cons .str (GvA.cons (isC h0 h) .nil)) (Nat.le_of_ble_eq_true rfl)
    refine Blk.set_ (d := .lst ((RW word 3).map prD)) (GvE.lst (GvA.cons (pr rfl KF.k_BadName) (GvA.cons (pr rfl KF.k_BadDay) (GvA.cons (pr rfl KF.k_Taken) .nil))) (Nat.le_of_ble_eq_true rfl)) ?_
    walk_at "nrm"
    refine Blk.set_ (d := .lst ((RW word 5).map prD)) (GvE.op (.var rfl) (GvE.lst (GvA.cons (pr rfl KF.k_BadNumber) (GvA.cons (pr rfl KF.k_BadCount) .nil)) (Nat.le_of_ble_eq_true rfl)) (rl_cat (Nat.le_of_ble_eq_true rfl))) ?_
    walk_at "nrm"
    refine Blk.set_ (d := .lst ((RW word 8).map prD)) (GvE.op (.var rfl) (GvE.lst (GvA.cons (pr rfl KF.k_BadDeed) (GvA.cons (pr rfl KF.k_Clash) (GvA.cons (pr rfl KF.k_Full) .nil))) (Nat.le_of_ble_eq_true rfl)) (rl_cat (Nat.le_of_ble_eq_true rfl))) ?_
    walk_at "nrm"
    refine Blk.set_ (d := .lst ((RW word 11).map prD)) (GvE.op (.var rfl) (GvE.lst (GvA.cons (pr rfl KF.k_Short) (GvA.cons (pr rfl KF.k_Ring) (GvA.cons (pr rfl KF.k_NoRow) .nil))) (Nat.le_of_ble_eq_true rfl)) (rl_cat (Nat.le_of_ble_eq_true rfl))) ?_
    walk_at "nrm"
    refine Blk.set_ (d := .lst ((RW word 13).map prD)) (GvE.op (.var rfl) (GvE.lst (GvA.cons (pr rfl KF.k_BadText) (GvA.cons (pr rfl KF.k_BadForm) .nil)) (Nat.le_of_ble_eq_true rfl)) (rl_cat (Nat.le_of_ble_eq_true rfl))) ?_
    walk_at "nrm"
    refine Blk.set_ (d := .lst ((RW word 15).map prD)) (GvE.op (.var rfl) (GvE.lst (GvA.cons (pr rfl KF.k_NoHouse) (GvA.cons (pr rfl KF.k_NoCoin) .nil)) (Nat.le_of_ble_eq_true rfl)) (rl_cat (Nat.le_of_ble_eq_true rfl))) ?_
    walk_at "nrm"
    refine Blk.set_ (d := .lst ((RW word 17).map prD)) (GvE.op (.var rfl) (GvE.lst (GvA.cons (pr rfl KF.k_NoTelling) (GvA.cons (pr rfl KF.k_NotRuled) .nil)) (Nat.le_of_ble_eq_true rfl)) (rl_cat (Nat.le_of_ble_eq_true rfl))) ?_
    walk_at "nrm"
    refine Blk.set_ (d := .lst ((RW word 19).map prD)) (GvE.op (.var rfl) (GvE.lst (GvA.cons (pr rfl KF.k_NoMeasure) (GvA.cons (pr rfl KF.k_Nothing) .nil)) (Nat.le_of_ble_eq_true rfl)) (rl_cat (Nat.le_of_ble_eq_true rfl))) ?_
    walk_at "nrm"
    refine Blk.set_ (d := .lst [.str word]) (GvE.cast (GvE.lcFM (xs := RW word 19) (h := prD) (fun x => x.2) (fun x => .str x.1) (GvI.lst (.var rfl)) (by show 19 ≤ 16777216; decide) (fun x _ => ⟨_, GvG.tup (GvG.cons .name (GvG.cons .name GvG.nil)) rfl, by simp, GvT.val (.var rfl), fun _ => .var rfl⟩)) (congrArg Own.D.lst (RW_found hw4))) ?_
    walk_at "nrm"
    refine Blk.seq (Blk.ifF (GvT.cast (GvT.test (GvE.op (GvE.cb (GvA.cons (.var rfl) .nil) (rc_len (.inl rfl))) .int rl_neI)) rfl) (.nx rfl)) ?_
    refine Blk.set_ (d := .str word) (GvE.op (.var rfl) .int (rl_ixL atI_0)) ?_
    walk_at "nrm"
    refine Blk.set_ (d := .lst [.bl (roofW word), .bl (missW word), .bl (roofW word)]) (GvE.lst (GvA.cons (isC rfl KF.roof) (GvA.cons (isC rfl KF.miss) (GvA.cons (isB rfl KF.ve) .nil))) (Nat.le_of_ble_eq_true rfl)) ?_
    walk_at "nrm"
    refine Blk.set_ (d := .lst [.bl (roofW word), .bl (missW word), .bl (roofW word), .bl (missW word), .bl false, .bl false]) (GvE.op (.var rfl) (GvE.lst (GvA.cons (isB rfl KF.le) (GvA.cons (isB rfl KF.zd) (GvA.cons (isB rfl KF.ie) .nil))) (Nat.le_of_ble_eq_true rfl)) (rl_cat (Nat.le_of_ble_eq_true rfl))) ?_
    walk_at "nrm"
    refine Blk.set_ (d := .lst [.bl true, .bl false, .bl true, .bl false, .bl false, .bl false]) (GvE.lst (GvA.cons .bl (GvA.cons .bl (GvA.cons .bl (GvA.cons .bl (GvA.cons .bl (GvA.cons .bl .nil)))))) (Nat.le_of_ble_eq_true rfl)) ?_
    walk_at "nrm"
    have mb : ∀ b : Bool, Mild (.bool b) 10 0 := fun b => by cases b <;> exact ⟨rfl, rfl, Nat.le_refl _, by decide +kernel⟩
    have hN : Neat (.list [.bool (roofW word), .bool (missW word), .bool (roofW word), .bool (missW word), .bool false, .bool false]) := (Mild.list (n := 10) (k := 0) (m := 6) (fun d hd => by
      simp only [List.mem_cons, List.not_mem_nil, or_false] at hd
      rcases hd with rfl | rfl | rfl | rfl | rfl | rfl <;> exact mb _) (by show 6 ≤ 6; decide)).neat (by decide) (by decide)
    have in5 : ∀ {ρ : List Own.Slot} {i : Nat} {z : Str} {b : Bool}, ρ[i]? = some (.imm (.str z)) → decide (z ∈ ([("NoHouse" : Str), "NoCoin", "NoRow", "NoTelling", "NotRuled"])) = b → GvE K F ρ (tOp (rIn K false) (tVar i) (tTup (tCons (tC (V.str (Str.ofString "NoHouse"))) (tCons (tC (V.str (Str.ofString "NoCoin"))) (tCons (tC (V.str (Str.ofString "NoRow"))) (tCons (tC (V.str (Str.ofString "NoTelling"))) (tCons (tC (V.str (Str.ofString "NotRuled"))) tNil))))))) (.bl b) := fun h0 h => GvE.cast (GvE.op (.var h0) (GvE.tup (GvA.cons .str (GvA.cons .str (GvA.cons .str (GvA.cons .str (GvA.cons .str .nil))))) (Nat.le_of_ble_eq_true rfl)) (rl_inT (ys := ["NoHouse", "NoCoin", "NoRow", "NoTelling", "NotRuled"]))) (by rw [h])
    refine Blk.seq (ρ1 := [.imm (.at_ p.1), .imm (.lst ((RW word 19).map prD)), .imm (.str word), .imm (.lst [.str word]), .imm (.lst [.bl (roofW word), .bl (missW word), .bl (roofW word), .bl (missW word), .bl false, .bl false]), .imm (.lst [.bl (roofW word), .bl (missW word), .bl (roofW word), .bl (missW word), .bl false, .bl false]), .un]) ?_ ?_
    · unfold words4 at hw4
      simp only [List.mem_cons, List.not_mem_nil, or_false] at hw4
      rcases hw4 with rfl | rfl | rfl | rfl
      · exact Blk.ifF (GvT.test (in5 rfl (by decide +kernel))) (.nx rfl)
      · exact Blk.ifF (GvT.test (in5 rfl (by decide +kernel))) (.nx rfl)
      · exact Blk.ifF (GvT.test (in5 rfl (by decide +kernel))) (.nx rfl)
      · exact Blk.ifF (GvT.test (in5 rfl (by decide +kernel))) (.nx rfl)
    refine Blk.seq (Blk.ifF (GvT.cast (GvT.test (GvE.op (.var rfl) (GvE.tup (GvA.cons .str (GvA.cons .str .nil)) (Nat.le_of_ble_eq_true rfl)) (rl_inT (ys := ["NoMeasure", "Nothing"])))) ?_) (.nx rfl)) ?_
    · unfold words4 at hw4
      simp only [List.mem_cons, List.not_mem_nil, or_false] at hw4
      rcases hw4 with rfl | rfl | rfl | rfl <;> decide +kernel
    exact Blk.ret (GvE.ite' (b := true) (GvT.cast (GvT.test (GvE.op (.var rfl) (.var rfl) (rl_eqPy hN hN))) hN.refl) (fun _ => .var rfl) (fun z => by cases z)) rfl
/-- what the refusal's field is -/
def fldW (z : Str) : Str := if z = "BadNumber" then "number" else if z = "BadCount" then "count" else "name"
def R_field (a : Adr) (K : PySem.W.Frag) (x : Addr) (c : Value) (fs : Option (List (Str × D))) (ds : List D) (r : D) : Prop := ∃ D word g, ds = [.at_ x, .str word] ∧ c = .ref D ∧ fs = some [(fldW word, g)] ∧ KdF a K D word ∧ word ∈ words4 ∧ r = g
theorem ok_l_field (T : Tx a K mg w) : FnHp P w K mg base 1 a.f_l_field a.d_l_field ps_l_field (spHx K (R_field a K)) := by
  refine okHx T.F_l_field sc_l_field (fun x c fs ds r h => ?_) (fun cdv A outer s H X p c d hot hz hr fs0 hex => ?_)
  · obtain ⟨D, word, g, rfl, _⟩ := h
    rfl
  · obtain ⟨ds0, r0, I0, x0, D, word0, g0, _, rfl, rfl, KF0, _⟩ := hex
    obtain ⟨dd, ws0, rfl, _⟩ := x0
    have EC := KF0.xc
    have NF_count := KF0.n_count
    have NF_day := KF0.n_day
    have NF_number := KF0.n_number
    have NF_name := KF0.n_name
    have NF_line := KF0.n_line
    have hf : ∃ vs, p.2.data = .fields vs := by
      obtain ⟨_, vs, e, _⟩ := hot
      exact ⟨vs, e⟩
    refine ⟨_, (pss_cons (ps_if (pt_cmpR op_eq (pv 1) pe_str (nomark _)) (pss_one (ps_ret (pe_xfP EC NF_count List.mem_cons_self hz hf (pv 0)))) pss_nil)
      (pss_cons (ps_if (pt_cmpR op_eq (pv 1) pe_str (nomark _)) (pss_one (ps_ret (pe_xfP EC NF_day List.mem_cons_self hz hf (pv 0)))) pss_nil)
      (pss_cons (ps_if (pt_cmpR op_in_seq (pv 1) (pe_tup (pa_cons pe_str (pa_cons pe_str (pa_cons pe_str (pa_cons pe_str pa_nil))))) (by rfl)) (pss_one (ps_ret (pe_xfP EC NF_number List.mem_cons_self hz hf (pv 0)))) pss_nil)
      (pss_cons (ps_if (pt_cmpR op_in_seq (pv 1) (pe_tup (pa_cons pe_str (pa_cons pe_str (pa_cons pe_str (pa_cons pe_str (pa_cons pe_str (pa_cons pe_str pa_nil))))))) (by rfl)) (pss_one (ps_ret (pe_xfP EC NF_name List.mem_cons_self hz hf (pv 0)))) pss_nil)
      (pss_cons (ps_if (pt_cmpR op_eq (pv 1) pe_str (nomark _)) (pss_one (ps_ret (pe_xfP EC NF_line List.mem_cons_self hz hf (pv 0)))) pss_nil)
      (pss_one (ps_ret pe_non))))))), ?_⟩
    try simp only [cxK, L2H.cxH, Cx.nox, Cx.wish]
    rintro F ds r xa ⟨D', word, g, rfl, eD, efs, KF, hw4, rfl⟩
    obtain rfl : D = D' := Value.ref.inj eD
    rw [efs] at xa
    show Blk K F [.imm (.at_ p.1), .imm (.str word)] _ _
    have in4 : ∀ {b : Bool}, decide (word ∈ ([("BadNumber" : Str), "Short", "NoTelling", "Ring"])) = b → GvE K F [.imm (.at_ p.1), .imm (.str word)] (tOp (rIn K false) (tVar 1) (tTup (tCons (tC (V.str (Str.ofString "BadNumber"))) (tCons (tC (V.str (Str.ofString "Short"))) (tCons (tC (V.str (Str.ofString "NoTelling"))) (tCons (tC (V.str (Str.ofString "Ring"))) tNil)))))) (.bl b) := fun h => GvE.cast (GvE.op (.var rfl) (GvE.tup (GvA.cons .str (GvA.cons .str (GvA.cons .str (GvA.cons .str .nil)))) (Nat.le_of_ble_eq_true rfl)) (rl_inT (ys := ["BadNumber", "Short", "NoTelling", "Ring"]))) (by rw [h])
    have in6 : ∀ {b : Bool}, decide (word ∈ ([("BadName" : Str), "Taken", "NoHouse", "NoCoin", "NoRow", "NotRuled"])) = b → GvE K F [.imm (.at_ p.1), .imm (.str word)] (tOp (rIn K false) (tVar 1) (tTup (tCons (tC (V.str (Str.ofString "BadName"))) (tCons (tC (V.str (Str.ofString "Taken"))) (tCons (tC (V.str (Str.ofString "NoHouse"))) (tCons (tC (V.str (Str.ofString "NoCoin"))) (tCons (tC (V.str (Str.ofString "NoRow"))) (tCons (tC (V.str (Str.ofString "NotRuled"))) tNil)))))))) (.bl b) := fun h => GvE.cast (GvE.op (.var rfl) (GvE.tup (GvA.cons .str (GvA.cons .str (GvA.cons .str (GvA.cons .str (GvA.cons .str (GvA.cons .str .nil)))))) (Nat.le_of_ble_eq_true rfl)) (rl_inT (ys := ["BadName", "Taken", "NoHouse", "NoCoin", "NoRow", "NotRuled"]))) (by rw [h])
    have rd : ∀ {f : Str}, fldW word = f → GvE K F [.imm (.at_ p.1), .imm (.str word)] (tXf p.1 (.ref D) (some dd) D f (tVar 0)) r := fun h => GvE.xf (.var rfl) xa (by rw [h]; simp [List.lookup])
    have eq1 : ∀ {z : Str} {b : Bool}, decide (word = z) = b → GvT K F [.imm (.at_ p.1), .imm (.str word)] (tTest (tOp rEq (tVar 1) (tC (V.str z)))) b := fun h => GvT.cast (GvT.test (GvE.op (.var rfl) .str rl_eqS)) h
    unfold words4 at hw4
    simp only [List.mem_cons, List.not_mem_nil, or_false] at hw4
    rcases hw4 with rfl | rfl | rfl | rfl
    · refine Blk.seq (Blk.ifF (eq1 (by decide +kernel)) (.nx rfl)) ?_
      refine Blk.seq (Blk.ifF (eq1 (by decide +kernel)) (.nx rfl)) ?_
      refine Blk.seq (Blk.ifF (GvT.test (in4 (by decide +kernel))) (.nx rfl)) ?_
      exact Blk.seqN (N := fun _ => False) (Blk.ifT (GvT.test (in6 (by decide +kernel))) (Blk.ret (rd (by decide +kernel)) rfl)) fun _ z => z.elim
    · refine Blk.seq (Blk.ifF (eq1 (by decide +kernel)) (.nx rfl)) ?_
      refine Blk.seq (Blk.ifF (eq1 (by decide +kernel)) (.nx rfl)) ?_
      refine Blk.seq (Blk.ifF (GvT.test (in4 (by decide +kernel))) (.nx rfl)) ?_
      exact Blk.seqN (N := fun _ => False) (Blk.ifT (GvT.test (in6 (by decide +kernel))) (Blk.ret (rd (by decide +kernel)) rfl)) fun _ z => z.elim
    · refine Blk.seq (Blk.ifF (eq1 (by decide +kernel)) (.nx rfl)) ?_
      refine Blk.seq (Blk.ifF (eq1 (by decide +kernel)) (.nx rfl)) ?_
      exact Blk.seqN (N := fun _ => False) (Blk.ifT (GvT.test (in4 (by decide +kernel))) (Blk.ret (rd (by decide +kernel)) rfl)) fun _ z => z.elim
    · exact Blk.seqN (N := fun _ => False) (Blk.ifT (eq1 (by decide +kernel)) (Blk.ret (rd (by decide +kernel)) rfl)) fun _ z => z.elim

end
end My

set_option Elab.async false
set_option maxRecDepth 100000
set_option maxHeartbeats 4000000
set_option linter.all false
namespace My
open PySem L2 Own
section
variable {P : Program} [PO P] {w : World} {K : PySem.W.Frag} {mg : Str → Option Value} {base : Heap} {a : Adr}
local macro_rules | `(tactic| walk_at "gv") => `(tactic| first
  | (with_reducible first | exact GvE.int | exact GvE.str | exact GvE.bl | exact GvE.non | exact GvE.glob | exact GvE.ty | exact GvA.nil | exact GvT.yes | exact GvO.no | exact GvE.dnew)
  | ((with_reducible apply GvE.var); rfl)
  | ((with_reducible apply GvA.cons) <;> walk_at "gv")
  | ((with_reducible apply GvE.op) <;> walk_at "gv")
  | ((with_reducible first | apply rl_add | apply rl_sub | apply rl_lt | apply rl_le | apply rl_gt | apply rl_ge | apply rl_eqI | apply rl_eqS | apply rl_neI | apply rl_neS | apply rl_neg | apply rl_slL | apply rl_slT | apply rl_inL | apply rl_ninL | apply rl_inT | apply rl_ninT | apply rl_inS | apply rl_ninS | apply rl_isN | apply rl_notN | apply rc_abs | apply rc_max | apply rc_min | apply rc_tupL | apply rc_all | apply rc_any | apply rc_sum | apply rm_starts | apply rc_len (.inl rfl) | apply rc_len (.inr rfl) | apply rc_list (.inl rfl) | apply rc_list (.inr rfl) | apply rl_I | apply rl_cat | apply rl_catT | apply rl_catS | apply rl_ixL | apply rl_ixT | apply rl_ixS | apply rl_ixK | apply rl_slS | apply rc_lenS | apply rc_strI) <;> try first | decide | exact ⟨by decide, by decide⟩ | exact ⟨by decide, by decide, by decide⟩ | with_reducible (first | exact atI_0 | exact atI_1 | exact atI_2 | exact atI_3 | exact atI_4 | exact atI_5))
  | ((with_reducible apply GvE.cb) <;> walk_at "gv")
  | ((with_reducible apply GvE.un) <;> walk_at "gv")
  | ((with_reducible apply GvE.sl) <;> walk_at "gv")
  | ((with_reducible apply GvO.of) <;> walk_at "gv")
  | ((with_reducible apply GvE.m1) <;> walk_at "gv")
  | ((with_reducible apply GvE.m0) <;> walk_at "gv")
  | ((with_reducible apply GvE.tup) <;> walk_at "gv")
  | ((with_reducible apply GvE.lst) <;> walk_at "gv")
  | ((with_reducible apply GvT.test) <;> walk_at "gv")
  | ((with_reducible apply GvT.val) <;> walk_at "gv")
  | ((with_reducible apply GvT.not) <;> walk_at "gv")
  | ((with_reducible apply GvE.notV) <;> walk_at "gv")
  | ((with_reducible apply GvE.call) <;> walk_at "gv")
  | ((with_reducible first | apply GvT.and | apply GvT.or | apply GvE.andV | apply GvE.orV) <;> first | (intro _; walk_at "gv") | walk_at "gv")
  | decide | exact Nat.le_of_ble_eq_true rfl | skip)
local macro_rules | `(tactic| walk_at "nrm") => `(tactic| try simp only [List.set_cons_zero, List.set_cons_succ])
local macro_rules | `(tactic| walk_at "set") => `(tactic| first | ((with_reducible apply Blk.set_); focus walk_at "gv") | skip)
local macro_rules | `(tactic| walk_at "ret") => `(tactic| first | ((with_reducible apply Blk.ret); focus walk_at "gv") | skip)
local macro_rules | `(tactic| walk_at "if") => `(tactic| first | ((with_reducible apply Blk.ifS); focus walk_at "gv") | skip)
local macro_rules | `(tactic| walk_at "asg") => `(tactic| first | ((with_reducible apply Blk.asg); focus walk_at "gv") | skip)
local macro_rules | `(tactic| walk_at "setG") => `(tactic| first | ((with_reducible apply Blk.setG); focus walk_at "gv") | skip)
local macro_rules | `(tactic| walk_at "app") => `(tactic| first | (((with_reducible apply Blk.append); focus rfl); focus walk_at "gv") | skip)
local macro_rules | `(tactic| walk_at "gg") => `(tactic| first
  | (with_reducible first | exact GvG.name | exact GvG.nil)
  | ((with_reducible apply GvG.cons) <;> walk_at "gg")
  | ((with_reducible first | apply GvG.tup | apply GvG.unl) <;> walk_at "gg")
  | decide | rfl | skip)
local macro_rules | `(tactic| walk_at "ifF") => `(tactic| first | ((with_reducible apply Blk.ifF); focus ((with_reducible apply GvT.cast); focus walk_at "gv")) | skip)
local macro_rules | `(tactic| walk_at "ifT") => `(tactic| first | ((with_reducible apply Blk.ifT); focus ((with_reducible apply GvT.cast); focus walk_at "gv")) | skip)
local macro_rules | `(tactic| walk_at "expr") => `(tactic| first | ((with_reducible apply Blk.expr); focus walk_at "gv") | skip)

/-! ### rows that are refused -/
theorem _root_.Own.Blk.fldI {K : PySem.W.Frag} {F : Own.Fr} {ρ : List Own.Slot} {te : XK → TE} {ta : TE} {f : Str} {X : XK} {C0 x dx C : Addr} {gs : List (Str × D)} {fs : Option (List (Str × D))} {Q : Own.Ps} (h : GvZ K F ρ te C fs) (w : WantsI K F X C0 x dx C fs) (h0 : ρ[0]? = some (.own (resI K C0 x dx gs))) : Blk K F ρ (sFld K ta (te X) f) Q := .now fun s => h.run s fun d I' H' st xa => w d I' H' _ _ gs (s.step st) h0 xa
/-- the first refusal of the rows, the names ahead being seen -/
def lookR (b : Int) : List Str → List (Str × Int) → Option (Str × D)
  | _, [] => none
  | seen, r :: rs => if okN r.1 = false then some ("BadName", .str r.1) else if r.1 ∈ seen then some ("Taken", .str r.1) else if ¬ (1 ≤ r.2 ∧ r.2 ≤ b) then some ("BadNumber", .int r.2) else lookR b (seen ++ [r.1]) rs
def lookF (rs : List (Str × Int)) (m b : Int) : Option (Str × D) := if ¬ (1 ≤ (rs.length : Int) ∧ (rs.length : Int) ≤ m) then some ("BadCount", .int rs.length) else lookR b [] rs
def clsW (a : Adr) (z : Str) : Addr := if z = "BadName" then a.C_BadName else if z = "Taken" then a.C_Taken else if z = "BadNumber" then a.C_BadNumber else a.C_BadCount
def Rows (rs : List (Str × Int)) : Prop := ∀ r ∈ rs, Small r.1 100
theorem okN_let {z : Str} (h : okN z = true) : Let z z.length := ⟨rfl, fun c hc => by
  have h2 := okN_all h c hc
  unfold abcL at h2
  rw [abc_list, List.mem_range'] at h2
  obtain ⟨i, hi, rfl⟩ := h2
  unfold Low
  omega⟩
theorem lookR_ok {b : Int} : ∀ {rs : List (Str × Int)} {seen : List Str}, lookR b seen rs = none → (∀ r ∈ rs, okN r.1 = true ∧ 1 ≤ r.2 ∧ r.2 ≤ b) ∧ (rs.map (·.1)).Nodup ∧ ∀ r ∈ rs, r.1 ∉ seen
  | [], _, _ => ⟨fun r h => absurd h List.not_mem_nil, List.nodup_nil, fun r h => absurd h List.not_mem_nil⟩
  | r :: rs, seen, h => by
    unfold lookR at h
    split at h
    · cases h
    · rename_i h1
      split at h
      · cases h
      · rename_i h2
        split at h
        · cases h
        · rename_i h3
          have h3 := Decidable.not_not.mp h3
          obtain ⟨k1, k2, k3⟩ := lookR_ok h
          refine ⟨fun e he => ?_, ?_, fun e he => ?_⟩
          · rcases List.mem_cons.mp he with rfl | he
            · exact ⟨by simpa using h1, h3⟩
            · exact k1 e he
          · rw [List.map_cons, List.nodup_cons]
            refine ⟨fun hm => ?_, k2⟩
            obtain ⟨e, he, e1⟩ := List.mem_map.mp hm
            exact k3 e he (List.mem_append_right _ (by rw [e1]; exact List.mem_singleton.mpr rfl))
          · rcases List.mem_cons.mp he with rfl | he
            · exact h2
            · exact fun z => k3 e he (List.mem_append_left _ z)
theorem lookF_ok {b m : Int} {rs : List (Str × Int)} (h : lookF rs m b = none) : OkRows b rs ∧ 1 ≤ rs.length ∧ (rs.length : Int) ≤ m := by
  unfold lookF at h
  split at h
  · cases h
  · rename_i h0
    have h0 := Decidable.not_not.mp h0
    obtain ⟨k1, k2, _⟩ := lookR_ok h
    refine ⟨⟨⟨fun n hn => ?_, k2⟩, fun r hr => (k1 r hr).2⟩, by omega, h0.2⟩
    obtain ⟨r, hr, rfl⟩ := List.mem_map.mp hn
    have := okN_len (k1 r hr).1
    exact ⟨_, okN_let (k1 r hr).1, by omega, by omega⟩
/-! ### _need_number, refused -/
def R_nmX (a : Adr) (ds : List D) (D : Addr) (fs : Option (List (Str × Own.D))) : Prop := ∃ z n lo hi, ds = [.str z, .int n] ∧ numB z lo hi ∧ ¬ (lo ≤ n ∧ n ≤ hi) ∧ D = a.C_BadNumber ∧ fs = some [(("number" : Str), .int n)]
theorem okx_need_number (T : Tx a K mg w) : FnOk P w K mg base (L2N.CX P w) 3 a.f_need_number a.d_need_number ps_need_number (spX K false (R_nmX a)) := by
  refine okX T.F_need_number sc_need_number (fun ds d fs h => ?_) (fun cdv A outer s H X hr => ?_)
  · obtain ⟨z, n, lo, hi, rfl, _⟩ := h
    rfl
  · have hu := hu_of hr
    have I_BadNumber := okI_BadNumber (P := P) (w := w) (base := base) T
    have BI_BadNumber := bndI_BadNumber T
    have hrI : Room 2 _ := hr.mono (by decide)
    refine ⟨_, (pss_cons (ps_asg (pe_ix ix_kdict (pe_glob (v := V.ref a.B_BOUNDS) rfl T.mg_BOUNDS rfl) (pv 0) (fun _ _ => rfl)) (pg_tup rfl (pgs_cons (pg_name (i := 2) sc_need_number.nd rfl (by first | exact Or.inl rfl | exact Or.inr rfl)) (pgs_cons (pg_name (i := 3) sc_need_number.nd rfl (by first | exact Or.inl rfl | exact Or.inr rfl)) pgs_nil)) (by rfl)))
      (pss_cons (ps_if (PW.pt (pw_or (pt_cmpR op_lt (pv 1) (pv 2) (nomark _)) (pw_or1 (pt_cmpR op_gt (pv 1) (pv 3) (nomark _))))) (pss_one (L2N.ps_raise rfl (L2N.takes_of rfl rfl rfl rfl) (pmk_ox T.ox_BadNumber T.su_BadNumber.ini T.su_BadNumber.fty I_BadNumber hrI BI_BadNumber takesN (by rfl) T.mg_BadNumber (pa_cons (pv 1) pa_nil)))) pss_nil)
      (pss_one (ps_if (PW.pt (pw_and (pt_cmpR op_eq (pv 0) pe_str (nomark _)) (pw_and1 (pt_cmpR op_eq (pv 1) pe_int (nomark _))))) (pss_one (L2N.ps_raise rfl (L2N.takes_of rfl rfl rfl rfl) (pmk_ox T.ox_BadNumber T.su_BadNumber.ini T.su_BadNumber.fty I_BadNumber hrI BI_BadNumber takesN (by rfl) T.mg_BadNumber (pa_cons (pv 1) pa_nil)))) pss_nil)))), ?_⟩
    try simp only [cxK]
    rintro F ds C fs ⟨z, n, lo, hi, rfl, hb, hn, rfl, rfl⟩ - hw
    show Blk K F [.imm (.str z), .imm (.int n), .un, .un] _ _
    obtain ⟨p, hK, hS⟩ := numB_K T hb
    refine Blk.setG (d := .tup [.int lo, .int hi]) (GvE.op .glob (.var rfl) (rl_ixK hK fun I => .tup' (hS.sq I) (.cons (.int _) (.cons (.int _) .nil)))) (GvG.tup (GvG.cons .name (GvG.cons .name GvG.nil)) rfl) ?_
    walk_at "nrm"
    refine Blk.seqN (N := fun _ => False) (Blk.ifT (GvT.cast (GvT.or (b := decide (n < lo)) (c := decide (hi < n)) (GvT.test (GvE.op (.var rfl) (.var rfl) rl_lt)) fun _ => GvT.test (GvE.op (.var rfl) (.var rfl) rl_gt)) ?_) (Blk.raiseS (GvA.cons (.var rfl) .nil) at_any hw)) fun _ z => z.elim
    rw [Bool.or_eq_true, decide_eq_true_eq, decide_eq_true_eq]
    omega
theorem okG_need_number (T : Tx a K mg w) : FnOk P w K mg base (L2N.CX P w) 3 a.f_need_number a.d_need_number ps_need_number (orS (spD K false R_need_number) (spX K false (R_nmX a))) := FnOk.orX (ok_need_number T) (okx_need_number T) (by decide)
/-! ### _numbers_by_name, refused -/
def R_nbX (a : Adr) (ds : List D) (D : Addr) (fs : Option (List (Str × Own.D))) : Prop := ∃ rs m hi z q, ds = [.lst (rs.map rowT), .int m, .str z] ∧ Rows rs ∧ rs.length ≤ 1000 ∧ numB z 1 hi ∧ z ≠ "change" ∧ lookF rs m hi = some q ∧ D = clsW a q.1 ∧ fs = some [(fldW q.1, q.2)]
theorem cls4 : clsW a "BadName" = a.C_BadName ∧ clsW a "Taken" = a.C_Taken ∧ clsW a "BadNumber" = a.C_BadNumber ∧ clsW a "BadCount" = a.C_BadCount := by
  have h1 : ¬ (("Taken" : Str) = "BadName") ∧ ¬ (("BadNumber" : Str) = "BadName") ∧ ¬ (("BadCount" : Str) = "BadName") ∧ ¬ (("BadNumber" : Str) = "Taken") ∧ ¬ (("BadCount" : Str) = "Taken") ∧ ¬ (("BadCount" : Str) = "BadNumber") := by decide +kernel
  obtain ⟨a1, a2, a3, a4, a5, a6⟩ := h1
  refine ⟨?_, ?_, ?_, ?_⟩ <;> simp [clsW, a1, a2, a3, a4, a5, a6]
theorem fld4 : fldW "BadName" = "name" ∧ fldW "Taken" = "name" ∧ fldW "BadNumber" = "number" ∧ fldW "BadCount" = "count" := by decide +kernel
theorem okx_numbers_by_name (T : Tx a K mg w) : FnOk P w K mg base (L2N.CX P w) 4 a.f_numbers_by_name a.d_numbers_by_name ps_numbers_by_name (spX K false (R_nbX a)) := by
  refine okX T.F_numbers_by_name sc_numbers_by_name (fun ds d fs h => ?_) (fun cdv A outer s H X hr => ?_)
  · obtain ⟨rs, m, hi, z, q, rfl, _⟩ := h
    rfl
  · have hu := hu_of hr
    have GX_need_name := okG_need_name (P := P) (w := w) (base := base) T
    have B_need_name := bnd_need_name T
    have hr_need_name : Room 3 _ := hr.mono (by decide)
    have GX_need_number := okG_need_number (P := P) (w := w) (base := base) T
    have B_need_number := bnd_need_number T
    have hr_need_number : Room 3 _ := hr.mono (by decide)
    have I_BadCount := okI_BadCount (P := P) (w := w) (base := base) T
    have BI_BadCount := bndI_BadCount T
    have I_Taken := okI_Taken (P := P) (w := w) (base := base) T
    have BI_Taken := bndI_Taken T
    have hrI : Room 2 _ := hr.mono (by decide)
    refine ⟨_, (pss_cons (ps_if (PW.pt (pw_or (pt_cmpR op_lt (pe_callB call_len_seq (by rfl) T.no_len (by decide +kernel) (pa_cons (pv 0) pa_nil)) pe_int (nomark _)) (pw_or1 (pt_cmpR op_gt (pe_callB call_len_seq (by rfl) T.no_len (by decide +kernel) (pa_cons (pv 0) pa_nil)) (pv 1) (nomark _))))) (pss_one (L2N.ps_raise rfl (L2N.takes_of rfl rfl rfl rfl) (pmk_ox T.ox_BadCount T.su_BadCount.ini T.su_BadCount.fty I_BadCount hrI BI_BadCount takesN (by rfl) T.mg_BadCount (pa_cons (pe_callB call_len_seq (by rfl) T.no_len (by decide +kernel) (pa_cons (pv 0) pa_nil)) pa_nil)))) pss_nil)
      (pss_cons (ps_set (i := 3) sc_numbers_by_name.nd rfl (by first | exact Or.inl rfl | exact Or.inr rfl) pe_dnewK)
      (pss_cons (ps_for (passes_of rfl) rfl (pi_list (pv 0)) (pg_tup rfl (pgs_cons (pg_name (i := 4) sc_numbers_by_name.nd rfl (by first | exact Or.inl rfl | exact Or.inr rfl)) (pgs_cons (pg_name (i := 5) sc_numbers_by_name.nd rfl (by first | exact Or.inl rfl | exact Or.inr rfl)) pgs_nil)) (by rfl))
        (pss_cons (ps_expr (pe_call GX_need_name hr_need_name (by rfl) T.mg_need_name T.F_need_name.kp B_need_name .nil (L2N.passes_call (L2N.takes_of rfl rfl rfl rfl) fun _ _ _ _ h => h) (pa_cons (pv 4) pa_nil)))
        (pss_cons (ps_if (pt_cmp (pc_din hu (pv 4) (pv 3))) (pss_one (L2N.ps_raise rfl (L2N.takes_of rfl rfl rfl rfl) (pmk_ox T.ox_Taken T.su_Taken.ini T.su_Taken.fty I_Taken hrI BI_Taken takesN (by rfl) T.mg_Taken (pa_cons (pv 4) pa_nil)))) pss_nil)
        (pss_cons (ps_expr (pe_call GX_need_number hr_need_number (by rfl) T.mg_need_number T.F_need_number.kp B_need_number .nil (L2N.passes_call (L2N.takes_of rfl rfl rfl rfl) fun _ _ _ _ h => h) (pa_cons (pv 2) (pa_cons (pv 5) pa_nil))))
        (pss_one (ps_dput hu (pv 3) (pv 4) (pv 5) rfl))))))
      (pss_one (ps_ret (pv 3)))))), ?_⟩
    try simp only [cxK]
    rintro F ds C fs ⟨rs, m, hi, z, q, rfl, hR, lt, hb, hz, hq, rfl, rfl⟩ - hw
    show Blk K F [.imm (.lst (rs.map rowT)), .imm (.int m), .imm (.str z), .un, .un, .un] _ _
    have nb : ∀ z : false = true, F.L = [] := fun z => by cases z
    have lenE : ∀ {ρ : List Own.Slot}, ρ[0]? = some (.imm (.lst (rs.map rowT))) → GvE K F ρ (tCB (fun xs H Q => ∃ p ys, xs = [V.ref p] ∧ (SqL K H p ys ∨ SqT K H p ys) ∧ Q (V.int ys.length) H) (tCons (tVar 0) tNil)) (.int rs.length) := fun h => GvE.cast (d := .int (rs.map rowT).length) (.cb (GvA.cons (.var h) .nil) (rc_len (.inl rfl))) (by rw [List.length_map])
    by_cases hl : 1 ≤ (rs.length : Int) ∧ (rs.length : Int) ≤ m
    · have hq : lookR hi [] rs = some q := by
        unfold lookF at hq
        rw [if_neg (fun z => z hl)] at hq
        exact hq
      refine Blk.seq (ρ1 := [.imm (.lst (rs.map rowT)), .imm (.int m), .imm (.str z), .un, .un, .un]) (Blk.ifF (GvT.cast (GvT.or (b := false) (c := false) (GvT.cast (GvT.test (GvE.op (lenE rfl) .int rl_lt)) (decide_eq_false (by omega))) fun _ => GvT.cast (GvT.test (GvE.op (lenE rfl) (.var rfl) rl_gt)) (decide_eq_false (by omega))) rfl) (.nx rfl)) ?_
      refine Blk.seq (Blk.newD rfl) ?_
      walk_at "nrm"
      refine Blk.seqN (N := fun _ => False) ?_ fun _ z => z.elim
      refine Blk.for_ (GvI.lst (.var rfl)) (fun i r => (∃ v4 v5, r = [.imm (.lst (rs.map rowT)), .imm (.int m), .imm (.str z), .own (resK K (rowsK (rs.take i))), v4, v5]) ∧ lookR hi ((rs.take i).map (·.1)) (rs.drop i) = some q) ⟨⟨_, _, rfl⟩, hq⟩ ?_ ?_
      · rintro i d ρ1 hd ⟨⟨v4, v5, rfl⟩, hL⟩
        obtain ⟨r, hr, rfl⟩ := Own.map_at hd
        have hm := List.mem_of_getElem? hr
        have hi2 := (List.getElem?_eq_some_iff.mp hr).1
        rw [List.drop_eq_getElem_cons hi2, (List.getElem?_eq_some_iff.mp hr).2] at hL
        have hrs := hR r hm
        refine ⟨_, _, GvG.tup (GvG.cons .name (GvG.cons .name GvG.nil)) rfl, ?_⟩
        walk_at "nrm"
        unfold lookR at hL
        by_cases h1 : okN r.1 = false
        · rw [if_pos h1] at hL
          obtain rfl := (Option.some.inj hL).symm
          rw [cls4.1, fld4.1] at hw
          exact Blk.seqN (N := fun _ => False) (Blk.exprZ (GvZ.call (es := []) (GvA.cons (.var rfl) .nil) (fun _ => .nil) ⟨r.1, rfl, hrs, h1, rfl, rfl⟩ nb) hw) fun _ z => z.elim
        · rw [if_neg h1] at hL
          have h1 : okN r.1 = true := by simpa using h1
          refine Blk.seq (Blk.expr (GvE.callO (es := []) (d := .non) (GvA.cons (.var rfl) .nil) (fun _ => .nil) ⟨r.1, rfl, hrs, h1, rfl⟩ nb) rfl) ?_
          by_cases h2 : r.1 ∈ (rs.take i).map (·.1)
          · rw [if_pos h2] at hL
            obtain rfl := (Option.some.inj hL).symm
            rw [cls4.2.1, fld4.2.1] at hw
            exact Blk.seqN (N := fun _ => False) (Blk.ifT (GvT.val ((GvE.lendK 3 rfl (GvE.din (k := Sum.inr r.1) (.var rfl) (.var rfl)) flat_bl).cast (by rw [getD_rows, decide_eq_true h2]))) (Blk.raiseS (GvA.cons (.var rfl) .nil) (at_txt hrs (by decide)) hw)) fun _ z => z.elim
          · rw [if_neg h2] at hL
            refine Blk.seq (ρ1 := [.imm (.lst (rs.map rowT)), .imm (.int m), .imm (.str z), .own (resK K (rowsK (rs.take i))), .imm (.str r.1), .imm (.int r.2)]) (Blk.ifF (GvT.val ((GvE.lendK 3 rfl (GvE.din (k := Sum.inr r.1) (.var rfl) (.var rfl)) flat_bl).cast (by rw [getD_rows, decide_eq_false h2]))) (.nx rfl)) ?_
            by_cases h3 : 1 ≤ r.2 ∧ r.2 ≤ hi
            · rw [if_neg (fun z => z h3)] at hL
              refine Blk.seq (Blk.expr (GvE.callO (es := []) (d := .non) (GvA.cons (.var rfl) (GvA.cons (.var rfl) .nil)) (fun _ => .nil) ⟨z, r.2, 1, hi, rfl, hb, h3.1, h3.2, fun e => absurd e hz, rfl⟩ nb) rfl) ?_
              refine Blk.dput (k := Sum.inr r.1) rfl (.var rfl) (.var rfl) ?_ ?_
              · unfold rowsK
                rw [List.length_map, List.length_take]
                omega
              · refine ⟨⟨.imm (.str r.1), .imm (.int r.2), ?_⟩, ?_⟩
                · walk_at "nrm"
                  rw [putD_rows h2, take_snoc hr]
                · rw [take_snoc hr, List.map_append]
                  exact hL
            · rw [if_pos h3] at hL
              obtain rfl := (Option.some.inj hL).symm
              rw [cls4.2.2.1, fld4.2.2.1] at hw
              exact Blk.seqN (N := fun _ => False) (Blk.exprZ (GvZ.call (es := []) (GvA.cons (.var rfl) (GvA.cons (.var rfl) .nil)) (fun _ => .nil) ⟨z, r.2, 1, hi, rfl, hb, h3, rfl, rfl⟩ nb) hw) fun _ z => z.elim
      · rintro ρ1 ⟨_, hL⟩
        rw [List.length_map, List.drop_length] at hL
        cases hL
    · unfold lookF at hq
      rw [if_pos hl] at hq
      obtain rfl := (Option.some.inj hq).symm
      rw [cls4.2.2.2, fld4.2.2.2] at hw
      refine Blk.seqN (N := fun _ => False) (Blk.ifT (GvT.cast (GvT.or (b := decide ((rs.length : Int) < 1)) (c := decide (m < (rs.length : Int))) (GvT.test (GvE.op (lenE rfl) .int rl_lt)) fun _ => GvT.test (GvE.op (lenE rfl) (.var rfl) rl_gt)) ?_) (Blk.raiseS (GvA.cons (lenE rfl) .nil) at_any hw)) fun _ z => z.elim
      rw [Bool.or_eq_true, decide_eq_true_eq, decide_eq_true_eq]
      omega
theorem okG_numbers_by_name (T : Tx a K mg w) : FnOk P w K mg base (L2N.CX P w) 4 a.f_numbers_by_name a.d_numbers_by_name ps_numbers_by_name (orS (spD K false R_numbers) (spX K false (R_nbX a))) := FnOk.orX (ok_numbers_by_name T) (okx_numbers_by_name T) (by decide)
/-! ### World, refused -/
/-- the first refusal of a world -/
def lookW (cs hs : List (Str × Int)) : Option (Str × D) := match lookF cs 5 1000000000 with
  | some q => some q
  | none => lookF hs 8 1000000
def R_wX (a : Adr) (ds : List D) (D : Addr) (fs : Option (List (Str × Own.D))) : Prop := ∃ cs hs q, ds = [.lst (cs.map rowT), .lst (hs.map rowT)] ∧ Rows cs ∧ Rows hs ∧ cs.length ≤ 1000 ∧ hs.length ≤ 1000 ∧ lookW cs hs = some q ∧ D = clsW a q.1 ∧ fs = some [(fldW q.1, q.2)]
theorem okIX {x qual : Str} {st : Stmt} {f : Addr} {fd : FuncData} {N ps : List Str} {k : Nat} {sb : Bool} {C0 : Addr} {R : XR} (T : Fun K x qual st f fd) (S : FnScope N ps (defScope st)) (hl : ∀ ds C fs, R ds C fs → ds.length + 1 = ps.length)
    (hb : ∀ (cdv : Value) (A : Around) (outer : List Env) (s : Shared) (H : Hp) (X : XK), Room k (A.deeper (PyProof.Rows.envOfC qual (defScope st) s.heap.objs.size f cdv)) →
      ∃ t, PSs (cxOf (L2N.CX P w) P w K mg base N qual (defScope st) f cdv A outer s H X) (defBody st) t ∧ ∀ F x dx ds C fs, R ds C fs → (sb = true → F.L = []) → WantsI K F X C0 x dx C fs → Blk K F (startI K C0 x dx N ds) t noP) : FnOk P w K mg base (L2N.CX P w) (k + 1) f fd ps (spIX K sb C0 R) := by
  obtain ⟨oc, od, kV, doc, pm, an, cdv, ct, osl, rfl, lk, hcd⟩ := T.ex
  refine fn_of lk hcd S (lenIX hl) fun A outer s H vs Q X hr h => ?_
  obtain ⟨t, h1, h2⟩ := hb cdv A outer s H X hr
  exact ⟨t, h1, enterIX h2 h⟩
theorem okx_World_init (T : Tx a K mg w) : FnOk P w K mg base (L2N.CX P w) 5 a.f_World_init a.d_World_init ps_World_init (spIX K false a.C_World (R_wX a)) := by
  refine okIX T.F_World_init sc_World_init (fun ds C fs h => ?_) (fun cdv A outer s H X hr => ?_)
  · obtain ⟨cs, hs, q, rfl, _⟩ := h
    rfl
  · have hu := hu_of hr
    obtain ⟨tokX_MOST_COINS, mgX_MOST_COINS⟩ := T.mg_MOST_COINS
    obtain ⟨tokX_MOST_HOUSES, mgX_MOST_HOUSES⟩ := T.mg_MOST_HOUSES
    have GX_numbers_by_name := okG_numbers_by_name (P := P) (w := w) (base := base) T
    have B_numbers_by_name := bnd_numbers_by_name T
    have hr_numbers_by_name : Room 4 _ := hr.mono (by decide)
    refine ⟨_, (pss_cons (ps_fld (pv 0) (pe_call GX_numbers_by_name hr_numbers_by_name (by rfl) T.mg_numbers_by_name T.F_numbers_by_name.kp B_numbers_by_name .nil (L2N.passes_call (L2N.takes_of rfl rfl rfl rfl) fun _ _ _ _ h => h) (pa_cons (pv 1) (pa_cons (pe_glob (v := V.int 5) rfl mgX_MOST_COINS ⟨_, rfl⟩) (pa_cons pe_str pa_nil)))) rfl)
      (pss_one (ps_fld (pv 0) (pe_call GX_numbers_by_name hr_numbers_by_name (by rfl) T.mg_numbers_by_name T.F_numbers_by_name.kp B_numbers_by_name .nil (L2N.passes_call (L2N.takes_of rfl rfl rfl rfl) fun _ _ _ _ h => h) (pa_cons (pv 2) (pa_cons (pe_glob (v := V.int 8) rfl mgX_MOST_HOUSES ⟨_, rfl⟩) (pa_cons pe_str pa_nil)))) rfl))), fun F x dx ds C fs hR _ hw => ?_⟩
    obtain ⟨cs, hs, q, rfl, hc, hh, c3, h3, hq, rfl, rfl⟩ := hR
    try simp only [cxK]
    show Blk K F [.own (resI K a.C_World x dx []), .imm (.lst (cs.map rowT)), .imm (.lst (hs.map rowT))] _ _
    have nb : ∀ z : false = true, F.L = [] := fun z => by cases z
    unfold lookW at hq
    split at hq
    · rename_i q1 h1
      cases hq
      exact Blk.seqN (N := fun _ => False) (Blk.fldI (gs := []) (GvZ.call (es := []) (GvA.cons (.var rfl) (GvA.cons .int (GvA.cons .str .nil))) (fun _ => .nil) ⟨cs, 5, 1000000000, "rate", q, rfl, hc, c3, by simp [numB], by decide +kernel, h1, rfl, rfl⟩ nb) hw rfl) fun _ z => z.elim
    · rename_i h1
      obtain ⟨k1, k2, k3⟩ := lookF_ok h1
      refine Blk.seq (Blk.fld (d := .dK (rowsK cs)) rfl (GvE.callO (es := []) (GvA.cons (.var rfl) (GvA.cons .int (GvA.cons .str .nil))) (fun _ => .nil) ⟨cs, 5, 1000000000, "rate", rfl, k1, k2, k3, c3, by simp [numB], by decide +kernel, rfl⟩ nb) T.cl_World T.na_World__rates (by decide) rfl) ?_
      walk_at "nrm"
      exact Blk.fldI (GvZ.call (es := []) (GvA.cons (.var rfl) (GvA.cons .int (GvA.cons .str .nil))) (fun _ => .nil) ⟨hs, 8, 1000000, "shares", q, rfl, hh, h3, by simp [numB], by decide +kernel, hq, rfl, rfl⟩ nb) hw rfl
theorem okG_World_init (T : Tx a K mg w) : FnOk P w K mg base (L2N.CX P w) 5 a.f_World_init a.d_World_init ps_World_init (orS (spI K false a.C_World R_world_init) (spIX K false a.C_World (R_wX a))) := FnOk.orX (ok_World_init T) (okx_World_init T) (by decide)

end
end My

set_option Elab.async false
set_option maxRecDepth 100000
set_option maxHeartbeats 4000000
set_option linter.all false
namespace My
open PySem L2 Own
section
variable {P : Program} [PO P] {w : World} {K : PySem.W.Frag} {mg : Str → Option Value} {base : Heap} {a : Adr}
local macro_rules | `(tactic| walk_at "gv") => `(tactic| first
  | (with_reducible first | exact GvE.int | exact GvE.str | exact GvE.bl | exact GvE.non | exact GvE.glob | exact GvE.ty | exact GvA.nil | exact GvT.yes | exact GvO.no | exact GvE.dnew)
  | ((with_reducible apply GvE.var); rfl)
  | ((with_reducible apply GvA.cons) <;> walk_at "gv")
  | ((with_reducible apply GvE.op) <;> walk_at "gv")
  | ((with_reducible first | apply rl_add | apply rl_sub | apply rl_lt | apply rl_le | apply rl_gt | apply rl_ge | apply rl_eqI | apply rl_eqS | apply rl_neI | apply rl_neS | apply rl_neg | apply rl_slL | apply rl_slT | apply rl_inL | apply rl_ninL | apply rl_inT | apply rl_ninT | apply rl_inS | apply rl_ninS | apply rl_isN | apply rl_notN | apply rc_abs | apply rc_max | apply rc_min | apply rc_tupL | apply rc_all | apply rc_any | apply rc_sum | apply rm_starts | apply rc_len (.inl rfl) | apply rc_len (.inr rfl) | apply rc_list (.inl rfl) | apply rc_list (.inr rfl) | apply rl_I | apply rl_cat | apply rl_catT | apply rl_catS | apply rl_ixL | apply rl_ixT | apply rl_ixS | apply rl_ixK | apply rl_slS | apply rc_lenS | apply rc_strI) <;> try first | decide | exact ⟨by decide, by decide⟩ | exact ⟨by decide, by decide, by decide⟩ | with_reducible (first | exact atI_0 | exact atI_1 | exact atI_2 | exact atI_3 | exact atI_4 | exact atI_5))
  | ((with_reducible apply GvE.cb) <;> walk_at "gv")
  | ((with_reducible apply GvE.un) <;> walk_at "gv")
  | ((with_reducible apply GvE.sl) <;> walk_at "gv")
  | ((with_reducible apply GvO.of) <;> walk_at "gv")
  | ((with_reducible apply GvE.m1) <;> walk_at "gv")
  | ((with_reducible apply GvE.m0) <;> walk_at "gv")
  | ((with_reducible apply GvE.tup) <;> walk_at "gv")
  | ((with_reducible apply GvE.lst) <;> walk_at "gv")
  | ((with_reducible apply GvT.test) <;> walk_at "gv")
  | ((with_reducible apply GvT.val) <;> walk_at "gv")
  | ((with_reducible apply GvT.not) <;> walk_at "gv")
  | ((with_reducible apply GvE.notV) <;> walk_at "gv")
  | ((with_reducible apply GvE.call) <;> walk_at "gv")
  | ((with_reducible first | apply GvT.and | apply GvT.or | apply GvE.andV | apply GvE.orV) <;> first | (intro _; walk_at "gv") | walk_at "gv")
  | decide | exact Nat.le_of_ble_eq_true rfl | skip)
local macro_rules | `(tactic| walk_at "nrm") => `(tactic| try simp only [List.set_cons_zero, List.set_cons_succ])
local macro_rules | `(tactic| walk_at "set") => `(tactic| first | ((with_reducible apply Blk.set_); focus walk_at "gv") | skip)
local macro_rules | `(tactic| walk_at "ret") => `(tactic| first | ((with_reducible apply Blk.ret); focus walk_at "gv") | skip)
local macro_rules | `(tactic| walk_at "if") => `(tactic| first | ((with_reducible apply Blk.ifS); focus walk_at "gv") | skip)
local macro_rules | `(tactic| walk_at "asg") => `(tactic| first | ((with_reducible apply Blk.asg); focus walk_at "gv") | skip)
local macro_rules | `(tactic| walk_at "setG") => `(tactic| first | ((with_reducible apply Blk.setG); focus walk_at "gv") | skip)
local macro_rules | `(tactic| walk_at "app") => `(tactic| first | (((with_reducible apply Blk.append); focus rfl); focus walk_at "gv") | skip)
local macro_rules | `(tactic| walk_at "gg") => `(tactic| first
  | (with_reducible first | exact GvG.name | exact GvG.nil)
  | ((with_reducible apply GvG.cons) <;> walk_at "gg")
  | ((with_reducible first | apply GvG.tup | apply GvG.unl) <;> walk_at "gg")
  | decide | rfl | skip)
local macro_rules | `(tactic| walk_at "ifF") => `(tactic| first | ((with_reducible apply Blk.ifF); focus ((with_reducible apply GvT.cast); focus walk_at "gv")) | skip)
local macro_rules | `(tactic| walk_at "ifT") => `(tactic| first | ((with_reducible apply Blk.ifT); focus ((with_reducible apply GvT.cast); focus walk_at "gv")) | skip)
local macro_rules | `(tactic| walk_at "expr") => `(tactic| first | ((with_reducible apply Blk.expr); focus walk_at "gv") | skip)

/-! ### _law_rows_by -/
def numF (ns : List Int) (k b : Int) (j : Nat) : Int :=
  let d := digF ns (k + (0 + (j : Nat)) % 3) [9973, 5]
  pk [1, b, 1 + d.getD 0 0, 1 + d.getD 0 0 * (0 + (j : Nat)), b - (0 + (j : Nat))] (d.getD 1 0)
def rowsF (ns : List Int) (k m b : Int) : List (Str × Int) := (List.range m.toNat).map fun j => ((namesF ns k m.toNat).getD j Str.empty, numF ns k b j)
def R_rows_by (ds : List D) (d : D) : Prop := ∃ (ns : List Int) (k m b : Int), ds = [.lst (ns.map .int), .int k, .int m, .int b] ∧ ns.length ≤ 63 ∧ 0 ≤ k ∧ k < 800000 ∧ 0 ≤ m ∧ m ≤ 12 ∧ 0 ≤ b ∧ b ≤ 1000000000 ∧ d = .lst ((rowsF ns k m b).map rowT)
theorem ok_l_rows_by (T : Tx a K mg w) : FnOk P w K mg base CX0 4 a.f_l_rows_by a.d_l_rows_by ps_l_rows_by (spD K false R_rows_by) := by
  refine okP T.F_l_rows_by sc_l_rows_by (fun ds d h => ?_) (fun cdv A outer s H X hr => ?_)
  · obtain ⟨ns, k, m, b, rfl, _⟩ := h
    rfl
  · have hu := hu_of hr
    have G_l_digits := ok_l_digits (P := P) (w := w) (base := base) T
    have B_l_digits := bnd_l_digits T
    have hr_l_digits : Room 2 _ := hr.mono (by decide)
    have G_l_names := ok_l_names (P := P) (w := w) (base := base) T
    have B_l_names := bnd_l_names T
    have hr_l_names : Room 3 _ := hr.mono (by decide)
    refine ⟨_, (pss_cons (ps_set (i := 4) sc_l_rows_by.nd rfl (by first | exact Or.inl rfl | exact Or.inr rfl) (pe_call G_l_names hr_l_names (by rfl) T.mg_l_names T.F_l_names.kp B_l_names .nil pass0 (pa_cons (pv 0) (pa_cons (pv 1) (pa_cons (pv 2) pa_nil)))))
      (pss_cons (ps_set (i := 5) sc_l_rows_by.nd rfl (by first | exact Or.inl rfl | exact Or.inr rfl) (pe_lst pa_nil))
      (pss_cons (ps_for PassesOwn.never rfl (pi_range1 rfl T.no_range (pa_cons (pv 2) pa_nil)) (pg_name (i := 6) sc_l_rows_by.nd rfl (by first | exact Or.inl rfl | exact Or.inr rfl))
        (pss_cons (ps_asg (pe_call G_l_digits hr_l_digits (by rfl) T.mg_l_digits T.F_l_digits.kp B_l_digits .nil pass0 (pa_cons (pv 0) (pa_cons (pe_op op_add (pv 1) (pe_op op_mod (pv 6) pe_int)) (pa_cons (pe_lst (pa_cons pe_int (pa_cons pe_int pa_nil))) pa_nil)))) (pg_unl rfl (pgs_cons (pg_name (i := 7) sc_l_rows_by.nd rfl (by first | exact Or.inl rfl | exact Or.inr rfl)) (pgs_cons (pg_name (i := 8) sc_l_rows_by.nd rfl (by first | exact Or.inl rfl | exact Or.inr rfl)) pgs_nil)) (by rfl)))
        (pss_one (ps_expr (pe_bm PySem.F.plainAttrs_list PySem.F.slot_list_append PySem.F.type_list_append mt_append (pv 5) (pa_cons (pe_tup (pa_cons (pe_ix ix_list (pv 4) (pv 6) (fun _ _ => rfl)) (pa_cons (pe_ix ix_list (pe_lst (pa_cons pe_int (pa_cons (pv 3) (pa_cons (pe_op op_add pe_int (pv 7)) (pa_cons (pe_op op_add pe_int (pe_op op_mulW (pv 7) (pv 6))) (pa_cons (pe_op op_sub (pv 3) (pv 6)) pa_nil)))))) (pv 8) (fun _ _ => rfl)) pa_nil))) pa_nil))))))
      (pss_one (ps_ret (pv 5)))))), ?_⟩
    try simp only [cxK, Cx.nox, Cx.wish]
    rintro F ds d ⟨ns, k, m, b, rfl, hn, h0, h1, m0, m1, b0, b1, rfl⟩ -
    show Blk K F [.imm (.lst (ns.map .int)), .imm (.int k), .imm (.int m), .imm (.int b), .un, .un, .un, .un, .un] _ _
    have nb : ∀ z : false = true, F.L = [] := fun z => by cases z
    have e1 : ∀ {x : Nat}, ((List.range (x + 1)).map fun j => rowT ((namesF ns k m.toNat).getD j Str.empty, numF ns k b j)) = ((List.range x).map fun j => rowT ((namesF ns k m.toNat).getD j Str.empty, numF ns k b j)) ++ [rowT ((namesF ns k m.toNat).getD x Str.empty, numF ns k b x)] := fun {x} => by rw [List.range_succ, List.map_append]; rfl
    have c1 : (rowsF ns k m b).map rowT = (List.range m.toNat).map fun j => rowT ((namesF ns k m.toNat).getD j Str.empty, numF ns k b j) := by unfold rowsF; rw [List.map_map]; rfl
    refine Blk.set_ (d := .lst ((namesF ns k m.toNat).map .str)) (GvE.call (GvA.cons (.var rfl) (GvA.cons (.var rfl) (GvA.cons (.var rfl) .nil))) ⟨ns, k, m, rfl, hn, h0, by omega, m0, m1, rfl⟩ nb) ?_
    walk_at "nrm"
    refine Blk.seq (Blk.newL .nil (by decide) rfl) ?_
    walk_at "nrm"
    refine Blk.seqN (N := fun r => ∃ v6 v7 v8, r = [.imm (.lst (ns.map .int)), .imm (.int k), .imm (.int m), .imm (.int b), .imm (.lst ((namesF ns k m.toNat).map .str)), .own (resL K ((rowsF ns k m b).map rowT)), v6, v7, v8]) ?_ ?_
    · refine Blk.for_ (GvI.range1 (GvA.cons (.var rfl) .nil) (by omega) (by omega)) (fun i r => ∃ v6 v7 v8, r = [.imm (.lst (ns.map .int)), .imm (.int k), .imm (.int m), .imm (.int b), .imm (.lst ((namesF ns k m.toNat).map .str)), .own (resL K ((List.range i).map fun j => rowT ((namesF ns k m.toNat).getD j Str.empty, numF ns k b j))), v6, v7, v8]) ⟨_, _, _, rfl⟩ ?_ ?_
      · rintro j d ρ1 hd ⟨v6, v7, v8, rfl⟩
        obtain ⟨hj, rfl⟩ := ups_get hd
        have hj : j < m.toNat := hj
        refine ⟨_, _, .name, ?_⟩
        walk_at "nrm"
        obtain ⟨x, y, hD, ⟨x0, x1⟩, ⟨y0, y1⟩⟩ := drawn2 (digF_in (ns := ns) (k := k + (0 + (j : Nat)) % 3) (szs := [9973, 5]) (by decide))
        refine Blk.setG (d := .lst [.int x, .int y]) (GvE.call (GvA.cons (.var rfl) (GvA.cons (GvE.op (.var rfl) (GvE.op (.var rfl) .int (rl_I (f := fun i j => i % j) (by decide))) rl_add) (GvA.cons (GvE.lst (GvA.cons .int (GvA.cons .int .nil)) (Nat.le_of_ble_eq_true rfl)) .nil))) ⟨ns, _, [9973, 5], rfl, hn, by omega, by omega, by decide, by decide, by rw [hD]; rfl⟩ nb) (GvG.unl (GvG.cons .name (GvG.cons .name GvG.nil)) rfl) ?_
        walk_at "nrm"
        have hr : numF ns k b j = pk [1, b, 1 + x, 1 + x * (0 + (j : Nat)), b - (0 + (j : Nat))] y := by
          unfold numF
          rw [hD]
          rfl
        refine Blk.append (d := rowT ((namesF ns k m.toNat).getD j Str.empty, numF ns k b j)) rfl ?_ ?_ ?_
        · rw [hr]
          refine GvE.tup (GvA.cons (GvE.cast (d := .str ((namesF ns k m.toNat).getD (0 + (j : Int)).toNat Str.empty)) (GvE.op (.var rfl) (.var rfl) (rl_ixL (atI_mapD Str.empty (by omega) (by rw [namesF_len]; omega)))) (by rw [show (0 + (j : Int)).toNat = j by omega])) (GvA.cons ?_ .nil)) (Nat.le_of_ble_eq_true rfl)
          exact GvE.op (d := .lst ([1, b, 1 + x, 1 + x * (0 + (j : Nat)), b - (0 + (j : Nat))].map .int)) (GvE.lst (GvA.cons .int (GvA.cons (.var rfl) (GvA.cons (GvE.op .int (.var rfl) rl_add) (GvA.cons (GvE.op .int (GvE.op (.var rfl) (.var rfl) (rl_I (mulW64 (by omega) (by omega)))) rl_add) (GvA.cons (GvE.op (.var rfl) (.var rfl) rl_sub) .nil))))) (Nat.le_of_ble_eq_true rfl)) (.var rfl) (rl_ixL (atI_mapD 0 y0 y1))
        · simp
          omega
        · repeat apply Exists.intro
          walk_at "nrm"
          rw [e1]
      · rintro ρ1 ⟨v6, v7, v8, rfl⟩
        rw [GvI.ups_len, c1]
        exact ⟨_, _, _, rfl⟩
    · rintro _ ⟨v6, v7, v8, rfl⟩
      refine Blk.freeL (i := 5) rfl ?_
      exact Blk.ret (.var rfl) rfl

end
end My

set_option Elab.async false
set_option maxRecDepth 100000
set_option maxHeartbeats 4000000
set_option linter.all false
namespace My
open PySem L2 Own
section
variable {P : Program} [PO P] {w : World} {K : PySem.W.Frag} {mg : Str → Option Value} {base : Heap} {a : Adr}
local macro_rules | `(tactic| walk_at "gv") => `(tactic| first
  | (with_reducible first | exact GvE.int | exact GvE.str | exact GvE.bl | exact GvE.non | exact GvE.glob | exact GvE.ty | exact GvA.nil | exact GvT.yes | exact GvO.no | exact GvE.dnew)
  | ((with_reducible apply GvE.var); rfl)
  | ((with_reducible apply GvA.cons) <;> walk_at "gv")
  | ((with_reducible apply GvE.op) <;> walk_at "gv")
  | ((with_reducible first | apply rl_add | apply rl_sub | apply rl_lt | apply rl_le | apply rl_gt | apply rl_ge | apply rl_eqI | apply rl_eqS | apply rl_neI | apply rl_neS | apply rl_neg | apply rl_slL | apply rl_slT | apply rl_inL | apply rl_ninL | apply rl_inT | apply rl_ninT | apply rl_inS | apply rl_ninS | apply rl_isN | apply rl_notN | apply rc_abs | apply rc_max | apply rc_min | apply rc_tupL | apply rc_all | apply rc_any | apply rc_sum | apply rm_starts | apply rc_len (.inl rfl) | apply rc_len (.inr rfl) | apply rc_list (.inl rfl) | apply rc_list (.inr rfl) | apply rl_I | apply rl_cat | apply rl_catT | apply rl_catS | apply rl_ixL | apply rl_ixT | apply rl_ixS | apply rl_ixK | apply rl_slS | apply rc_lenS | apply rc_strI) <;> try first | decide | exact ⟨by decide, by decide⟩ | exact ⟨by decide, by decide, by decide⟩ | with_reducible (first | exact atI_0 | exact atI_1 | exact atI_2 | exact atI_3 | exact atI_4 | exact atI_5))
  | ((with_reducible apply GvE.cb) <;> walk_at "gv")
  | ((with_reducible apply GvE.un) <;> walk_at "gv")
  | ((with_reducible apply GvE.sl) <;> walk_at "gv")
  | ((with_reducible apply GvO.of) <;> walk_at "gv")
  | ((with_reducible apply GvE.m1) <;> walk_at "gv")
  | ((with_reducible apply GvE.m0) <;> walk_at "gv")
  | ((with_reducible apply GvE.tup) <;> walk_at "gv")
  | ((with_reducible apply GvE.lst) <;> walk_at "gv")
  | ((with_reducible apply GvT.test) <;> walk_at "gv")
  | ((with_reducible apply GvT.val) <;> walk_at "gv")
  | ((with_reducible apply GvT.not) <;> walk_at "gv")
  | ((with_reducible apply GvE.notV) <;> walk_at "gv")
  | ((with_reducible apply GvE.call) <;> walk_at "gv")
  | ((with_reducible first | apply GvT.and | apply GvT.or | apply GvE.andV | apply GvE.orV) <;> first | (intro _; walk_at "gv") | walk_at "gv")
  | decide | exact Nat.le_of_ble_eq_true rfl | skip)
local macro_rules | `(tactic| walk_at "nrm") => `(tactic| try simp only [List.set_cons_zero, List.set_cons_succ])
local macro_rules | `(tactic| walk_at "set") => `(tactic| first | ((with_reducible apply Blk.set_); focus walk_at "gv") | skip)
local macro_rules | `(tactic| walk_at "ret") => `(tactic| first | ((with_reducible apply Blk.ret); focus walk_at "gv") | skip)
local macro_rules | `(tactic| walk_at "if") => `(tactic| first | ((with_reducible apply Blk.ifS); focus walk_at "gv") | skip)
local macro_rules | `(tactic| walk_at "asg") => `(tactic| first | ((with_reducible apply Blk.asg); focus walk_at "gv") | skip)
local macro_rules | `(tactic| walk_at "setG") => `(tactic| first | ((with_reducible apply Blk.setG); focus walk_at "gv") | skip)
local macro_rules | `(tactic| walk_at "app") => `(tactic| first | (((with_reducible apply Blk.append); focus rfl); focus walk_at "gv") | skip)
local macro_rules | `(tactic| walk_at "gg") => `(tactic| first
  | (with_reducible first | exact GvG.name | exact GvG.nil)
  | ((with_reducible apply GvG.cons) <;> walk_at "gg")
  | ((with_reducible first | apply GvG.tup | apply GvG.unl) <;> walk_at "gg")
  | decide | rfl | skip)
local macro_rules | `(tactic| walk_at "ifF") => `(tactic| first | ((with_reducible apply Blk.ifF); focus ((with_reducible apply GvT.cast); focus walk_at "gv")) | skip)
local macro_rules | `(tactic| walk_at "ifT") => `(tactic| first | ((with_reducible apply Blk.ifT); focus ((with_reducible apply GvT.cast); focus walk_at "gv")) | skip)
local macro_rules | `(tactic| walk_at "expr") => `(tactic| first | ((with_reducible apply Blk.expr); focus walk_at "gv") | skip)

/-! ### own lists: an item read, list(..) kept -/
section
variable {K : PySem.W.Frag} {F : Own.Fr} {ρ : List Own.Slot} {te ti : TE} {ds : List D} {d : D}
theorem ownIx {i : Nat} {k : Int} (h : ρ[i]? = some (.own (resL K ds))) (hk : GvE K F ρ ti (.int k)) (hd : atI ds k = some d) : GvE K F ρ (tOp (rIxL K) (tVar i) ti) d := ⟨fun {I H σ Q} s kk => by
  obtain ⟨v, f, h1, ⟨p, xs, rfl, rfl, h2, a⟩, _⟩ := s.put (H' := H) h
  refine ⟨.ref p, h1, hk.run s fun y I1 H1 s1 a1 => ?_⟩
  obtain ⟨v, hv, av⟩ := at_ats (a.mono s1.i) hd
  exact ⟨p, xs, k, v, rfl, a1.inv_int, ofL (s1.h _ _ h2), hv, kk v I1 H1 s1 av⟩⟩
theorem newOf {i : Nat} {Q : Own.Ps} (h : GvE K F ρ te (.lst ds)) (k : Q.nx (ρ.set i (.own (resL K ds)))) : Blk K F ρ (tAsg (tCB (fun xs H Q => ∃ p ys, xs = [.ref p] ∧ (SqL K H p ys ∨ SqT K H p ys) ∧ ∀ l, H l = none → Q (.ref l) (L2.upd H l (.lst ys))) (tCons te tNil)) (gName i)) Q := ⟨fun s e => h.run s fun v I1 H1 s1 a1 => by
  obtain ⟨p, xs, rfl, hp, ax⟩ := a1.inv_lst
  exact ⟨p, xs, rfl, .inl (ofL ((s.ok.step s1).u.tup hp fun z => z)), fun l hl => e.nx k s1.i ((s.step s1).make i (f := [l]) (fun q hq => by rw [List.mem_singleton.mp hq]; exact hl) (by simp) (fun q hq => upd_ne (by simpa using hq)) (fun q hq => by rw [List.mem_singleton.mp hq, upd_same]; exact fun z => nomatch z) ⟨l, xs, rfl, rfl, upd_same, ax⟩)⟩⟩
end
/-! ### _law_bent -/
theorem cat_le {x y : Str} {n m : Nat} (a : Small x n) (b : Small y m) (h : n + m ≤ 16777216) : x.length + y.length ≤ 16777216 := Nat.le_trans (Nat.add_le_add a.len b.len) h
theorem sm_7 : Small ("7" : Str) 1 := ⟨by decide +kernel, by decide +kernel⟩
theorem sm_at : Small ("@" : Str) 1 := ⟨by decide +kernel, by decide +kernel⟩
theorem sm_d : Small ("-" : Str) 1 := ⟨by decide +kernel, by decide +kernel⟩
def nm7 (z : Str) : List Str := ["", "A", z ++ ("7" : Str), "abcdefg", "a b", ("@" : Str) ++ z, z ++ ("-" : Str)]
def nb7 (b one : Int) : List Int := [0, b + 1, 0 - 5, 0 - b, b * 7, 0, b + one]
def newR (how place one b : Int) (rs : List (Str × Int)) (r : Str × Int) : Str × Int :=
  if how = 0 then ((nm7 r.1).getD one.toNat Str.empty, r.2) else if how = 1 then ((rs.getD (place.fdiv 7 % (rs.length : Int)).toNat (Str.empty, 0)).1, r.2) else if how = 2 then (r.1, (nb7 b one).getD one.toNat 0) else r
def stepF (how place one b : Int) (rs : List (Str × Int)) : List (Str × Int) :=
  if rs = [] then rs else if how = 0 ∨ how = 1 ∨ how = 2 then rs.set (place % (rs.length : Int)).toNat (newR how place one b rs (rs.getD (place % (rs.length : Int)).toNat (Str.empty, 0))) else rs
def bentJ (ns : List Int) (k b : Int) (j : Nat) (rs : List (Str × Int)) : List (Str × Int) :=
  let d := digF ns (k + (0 + (j : Nat))) [9, 97, 7]
  stepF (d.getD 0 0) (d.getD 1 0) (d.getD 2 0) b rs
def bentF (ns : List Int) (k b : Int) (rs : List (Str × Int)) : List (Str × Int) := bentJ ns k b 1 (bentJ ns k b 0 rs)
/-- rows of short texts and numbers within bounds -/
def RwN (n : Nat) (rs : List (Str × Int)) : Prop := ∀ r ∈ rs, Small r.1 n ∧ r.2.natAbs < 2 ^ 64
theorem RwN.mono {n m : Nat} {rs : List (Str × Int)} (h : RwN n rs) (e : n ≤ m) : RwN m rs := fun r hr => ⟨(h r hr).1.mono e, (h r hr).2⟩
theorem stepF_len {how place one b : Int} {rs : List (Str × Int)} : (stepF how place one b rs).length = rs.length := by
  unfold stepF
  split
  · rfl
  · split
    · rw [List.length_set]
    · rfl
theorem getD_RwN {n : Nat} {rs : List (Str × Int)} (h : RwN n rs) (k : Nat) : Small (rs.getD k (Str.empty, 0)).1 n ∧ (rs.getD k (Str.empty, 0)).2.natAbs < 2 ^ 64 := by
  rw [List.getD_eq_getElem?_getD]
  cases e : rs[k]? with
  | none => exact ⟨⟨Nat.zero_le _, by decide +kernel⟩, by decide⟩
  | some r => exact h r (List.mem_of_getElem? e)
theorem stepF_RwN {how place one b : Int} {n : Nat} {rs : List (Str × Int)} (h : RwN n rs) (hn : 6 ≤ n) (b0 : 0 ≤ b) (b1 : b ≤ 1000000000) (o0 : 0 ≤ one) (o1 : one < 7) : RwN (n + 1) (stepF how place one b rs) := by
  unfold stepF
  split
  · exact h.mono (Nat.le_succ n)
  · split
    · intro r hr
      rcases List.mem_or_eq_of_mem_set hr with hr | rfl
      · exact ⟨(h r hr).1.mono (Nat.le_succ n), (h r hr).2⟩
      · have g := getD_RwN h (place % (rs.length : Int)).toNat
        generalize rs.getD (place % (rs.length : Int)).toNat (Str.empty, 0) = r0 at *
        unfold newR
        split
        · refine ⟨?_, g.2⟩
          have all : ∀ y ∈ nm7 r0.1, Small y (n + 1) := fun y hy => by
            unfold nm7 at hy
            simp only [List.mem_cons, List.not_mem_nil, or_false] at hy
            rcases hy with rfl | rfl | rfl | rfl | rfl | rfl | rfl
            · exact ⟨Nat.zero_le _, by decide +kernel⟩
            · exact (show Small ("A" : Str) 1 from ⟨by decide +kernel, by decide +kernel⟩).mono (by omega)
            · exact g.1.app sm_7
            · exact (show Small ("abcdefg" : Str) 7 from ⟨by decide +kernel, by decide +kernel⟩).mono (by omega)
            · exact (show Small ("a b" : Str) 3 from ⟨by decide +kernel, by decide +kernel⟩).mono (by omega)
            · exact (sm_at.app g.1).mono (by omega)
            · exact g.1.app sm_d
          show Small ((nm7 r0.1).getD one.toNat Str.empty) (n + 1)
          rw [List.getD_eq_getElem?_getD]
          cases e : (nm7 r0.1)[one.toNat]? with
          | none => exact ⟨Nat.zero_le _, by decide +kernel⟩
          | some y => exact all y (List.mem_of_getElem? e)
        · split
          · exact ⟨(getD_RwN h _).1.mono (Nat.le_succ n), g.2⟩
          · split
            · refine ⟨g.1.mono (Nat.le_succ n), ?_⟩
              show ((nb7 b one).getD one.toNat 0).natAbs < 2 ^ 64
              rw [List.getD_eq_getElem?_getD]
              cases e : (nb7 b one)[one.toNat]? with
              | none => decide
              | some y =>
                have hy := List.mem_of_getElem? e
                unfold nb7 at hy
                simp only [List.mem_cons, List.not_mem_nil, or_false] at hy
                show y.natAbs < 2 ^ 64
                rcases hy with rfl | rfl | rfl | rfl | rfl | rfl | rfl <;> omega
            · exact ⟨g.1.mono (Nat.le_succ n), g.2⟩
    · exact h.mono (Nat.le_succ n)
theorem rows_py {n : Nat} {rs : List (Str × Int)} (h : RwN n rs) (hn : n ≤ 100) (hl : rs.length ≤ 1000) : Neat (.list (rs.map rowD)) ∧ ofPy (.list (rs.map rowD)) = .lst (rs.map rowT) := by
  constructor
  · refine (Mild.list (n := 4000) (k := 1) (m := 1000) (fun d hd => ?_) (by rw [List.length_map]; exact hl)).neat (by decide) (by decide)
    obtain ⟨r, hr, rfl⟩ := List.mem_map.mp hd
    obtain ⟨h1, h2⟩ := h r hr
    refine Mild.row h1 hn ?_
    by_cases h0 : r.2.natAbs = 0
    · rw [h0]
      decide
    · exact (Nat.log2_lt h0).mpr (Nat.lt_of_lt_of_le h2 (Nat.pow_le_pow_right (by decide) (by decide)))
  · rw [ofPy_list, List.map_map]
    rfl
theorem nil_py : Neat (.list []) ∧ ofPy (.list []) = .lst [] := ⟨(Mild.list (n := 10) (k := 0) (m := 0) (fun d hd => absurd hd List.not_mem_nil) (Nat.le_refl 0)).neat (by decide) (by decide), by rw [ofPy_list]; rfl⟩
def R_bent (ds : List D) (d : D) : Prop := ∃ (ns : List Int) (k b : Int) (rs : List (Str × Int)), ds = [.lst (ns.map .int), .int k, .lst (rs.map rowT), .int b] ∧ ns.length ≤ 63 ∧ 0 ≤ k ∧ k < 800000 ∧ 0 ≤ b ∧ b ≤ 1000000000 ∧ RwN 6 rs ∧ rs.length ≤ 100 ∧ d = .lst ((bentF ns k b rs).map rowT)

end
end My

set_option Elab.async false
set_option maxRecDepth 100000
set_option maxHeartbeats 4000000
set_option linter.all false
namespace My
open PySem L2 Own
section
variable {P : Program} [PO P] {w : World} {K : PySem.W.Frag} {mg : Str → Option Value} {base : Heap} {a : Adr}
local macro_rules | `(tactic| walk_at "gv") => `(tactic| first
  | (with_reducible first | exact GvE.int | exact GvE.str | exact GvE.bl | exact GvE.non | exact GvE.glob | exact GvE.ty | exact GvA.nil | exact GvT.yes | exact GvO.no | exact GvE.dnew)
  | ((with_reducible apply GvE.var); rfl)
  | ((with_reducible apply GvA.cons) <;> walk_at "gv")
  | ((with_reducible apply GvE.op) <;> walk_at "gv")
  | ((with_reducible first | apply rl_add | apply rl_sub | apply rl_lt | apply rl_le | apply rl_gt | apply rl_ge | apply rl_eqI | apply rl_eqS | apply rl_neI | apply rl_neS | apply rl_neg | apply rl_slL | apply rl_slT | apply rl_inL | apply rl_ninL | apply rl_inT | apply rl_ninT | apply rl_inS | apply rl_ninS | apply rl_isN | apply rl_notN | apply rc_abs | apply rc_max | apply rc_min | apply rc_tupL | apply rc_all | apply rc_any | apply rc_sum | apply rm_starts | apply rc_len (.inl rfl) | apply rc_len (.inr rfl) | apply rc_list (.inl rfl) | apply rc_list (.inr rfl) | apply rl_I | apply rl_cat | apply rl_catT | apply rl_catS | apply rl_ixL | apply rl_ixT | apply rl_ixS | apply rl_ixK | apply rl_slS | apply rc_lenS | apply rc_strI) <;> try first | decide | exact ⟨by decide, by decide⟩ | exact ⟨by decide, by decide, by decide⟩ | with_reducible (first | exact atI_0 | exact atI_1 | exact atI_2 | exact atI_3 | exact atI_4 | exact atI_5))
  | ((with_reducible apply GvE.cb) <;> walk_at "gv")
  | ((with_reducible apply GvE.un) <;> walk_at "gv")
  | ((with_reducible apply GvE.sl) <;> walk_at "gv")
  | ((with_reducible apply GvO.of) <;> walk_at "gv")
  | ((with_reducible apply GvE.m1) <;> walk_at "gv")
  | ((with_reducible apply GvE.m0) <;> walk_at "gv")
  | ((with_reducible apply GvE.tup) <;> walk_at "gv")
  | ((with_reducible apply GvE.lst) <;> walk_at "gv")
  | ((with_reducible apply GvT.test) <;> walk_at "gv")
  | ((with_reducible apply GvT.val) <;> walk_at "gv")
  | ((with_reducible apply GvT.not) <;> walk_at "gv")
  | ((with_reducible apply GvE.notV) <;> walk_at "gv")
  | ((with_reducible apply GvE.call) <;> walk_at "gv")
  | ((with_reducible first | apply GvT.and | apply GvT.or | apply GvE.andV | apply GvE.orV) <;> first | (intro _; walk_at "gv") | walk_at "gv")
  | decide | exact Nat.le_of_ble_eq_true rfl | skip)
local macro_rules | `(tactic| walk_at "nrm") => `(tactic| try simp only [List.set_cons_zero, List.set_cons_succ])
local macro_rules | `(tactic| walk_at "set") => `(tactic| first | ((with_reducible apply Blk.set_); focus walk_at "gv") | skip)
local macro_rules | `(tactic| walk_at "ret") => `(tactic| first | ((with_reducible apply Blk.ret); focus walk_at "gv") | skip)
local macro_rules | `(tactic| walk_at "if") => `(tactic| first | ((with_reducible apply Blk.ifS); focus walk_at "gv") | skip)
local macro_rules | `(tactic| walk_at "asg") => `(tactic| first | ((with_reducible apply Blk.asg); focus walk_at "gv") | skip)
local macro_rules | `(tactic| walk_at "setG") => `(tactic| first | ((with_reducible apply Blk.setG); focus walk_at "gv") | skip)
local macro_rules | `(tactic| walk_at "app") => `(tactic| first | (((with_reducible apply Blk.append); focus rfl); focus walk_at "gv") | skip)
local macro_rules | `(tactic| walk_at "gg") => `(tactic| first
  | (with_reducible first | exact GvG.name | exact GvG.nil)
  | ((with_reducible apply GvG.cons) <;> walk_at "gg")
  | ((with_reducible first | apply GvG.tup | apply GvG.unl) <;> walk_at "gg")
  | decide | rfl | skip)
local macro_rules | `(tactic| walk_at "ifF") => `(tactic| first | ((with_reducible apply Blk.ifF); focus ((with_reducible apply GvT.cast); focus walk_at "gv")) | skip)
local macro_rules | `(tactic| walk_at "ifT") => `(tactic| first | ((with_reducible apply Blk.ifT); focus ((with_reducible apply GvT.cast); focus walk_at "gv")) | skip)
local macro_rules | `(tactic| walk_at "expr") => `(tactic| first | ((with_reducible apply Blk.expr); focus walk_at "gv") | skip)

def seqF (ns : List Int) (k b : Int) (rs : List (Str × Int)) : Nat → List (Str × Int)
  | 0 => rs
  | i + 1 => bentJ ns k b i (seqF ns k b rs i)
theorem bentJ_in {ns : List Int} {k b : Int} {j : Nat} {n : Nat} {xs : List (Str × Int)} (h : RwN n xs) (hn : 6 ≤ n) (b0 : 0 ≤ b) (b1 : b ≤ 1000000000) : RwN (n + 1) (bentJ ns k b j xs) ∧ (bentJ ns k b j xs).length = xs.length := by
  obtain ⟨how, place, one, hD, ⟨w0, w1⟩, ⟨p0, p1⟩, ⟨o0, o1⟩⟩ := drawn3 (digF_in (ns := ns) (k := k + (0 + (j : Nat))) (szs := [9, 97, 7]) (by decide))
  unfold bentJ
  rw [hD]
  exact ⟨stepF_RwN h hn b0 b1 o0 o1, stepF_len⟩
theorem seqF_in {ns : List Int} {k b : Int} {rs : List (Str × Int)} (h : RwN 6 rs) (b0 : 0 ≤ b) (b1 : b ≤ 1000000000) : ∀ i, RwN (6 + i) (seqF ns k b rs i) ∧ (seqF ns k b rs i).length = rs.length
  | 0 => ⟨h, rfl⟩
  | i + 1 => by
    obtain ⟨h1, h2⟩ := seqF_in (ns := ns) (k := k) h b0 b1 i
    obtain ⟨h3, h4⟩ := bentJ_in (ns := ns) (k := k) (j := i) h1 (by omega) b0 b1
    exact ⟨h3, h4.trans h2⟩
theorem ok_l_bent (T : Tx a K mg w) : FnOk P w K mg base CX0 4 a.f_l_bent a.d_l_bent ps_l_bent (spD K false R_bent) := by
  refine okP T.F_l_bent sc_l_bent (fun ds d h => ?_) (fun cdv A outer s H X hr => ?_)
  · obtain ⟨ns, k, b, rs, rfl, _⟩ := h
    rfl
  · have hu := hu_of hr
    have G_l_digits := ok_l_digits (P := P) (w := w) (base := base) T
    have B_l_digits := bnd_l_digits T
    have hr_l_digits : Room 2 _ := hr.mono (by decide)
    refine ⟨_, (pss_cons (ps_set (i := 4) sc_l_bent.nd rfl (by first | exact Or.inl rfl | exact Or.inr rfl) (pe_callTy call_list_of (by rfl) T.no_list (by decide +kernel) (pa_cons (pv 2) pa_nil)))
      (pss_cons (ps_for PassesOwn.never rfl (pi_range1 rfl T.no_range (pa_cons pe_int pa_nil)) (pg_name (i := 5) sc_l_bent.nd rfl (by first | exact Or.inl rfl | exact Or.inr rfl))
        (pss_cons (ps_asg (pe_call G_l_digits hr_l_digits (by rfl) T.mg_l_digits T.F_l_digits.kp B_l_digits .nil pass0 (pa_cons (pv 0) (pa_cons (pe_op op_add (pv 1) (pv 5)) (pa_cons (pe_lst (pa_cons pe_int (pa_cons pe_int (pa_cons pe_int pa_nil)))) pa_nil)))) (pg_unl rfl (pgs_cons (pg_name (i := 6) sc_l_bent.nd rfl (by first | exact Or.inl rfl | exact Or.inr rfl)) (pgs_cons (pg_name (i := 7) sc_l_bent.nd rfl (by first | exact Or.inl rfl | exact Or.inr rfl)) (pgs_cons (pg_name (i := 8) sc_l_bent.nd rfl (by first | exact Or.inl rfl | exact Or.inr rfl)) pgs_nil))) (by rfl)))
        (pss_one (ps_if (pt_cmpR (op_neD hr.units) (pv 4) (pe_lst pa_nil) (nomark _)) (pss_cons (ps_set (i := 9) sc_l_bent.nd rfl (by first | exact Or.inl rfl | exact Or.inr rfl) (pe_op op_mod (pv 7) (pe_callB call_len_seq (by rfl) T.no_len (by decide +kernel) (pa_cons (pv 4) pa_nil))))
          (pss_cons (ps_asg (pe_ix ix_list (pv 4) (pv 9) (fun _ _ => rfl)) (pg_tup rfl (pgs_cons (pg_name (i := 10) sc_l_bent.nd rfl (by first | exact Or.inl rfl | exact Or.inr rfl)) (pgs_cons (pg_name (i := 11) sc_l_bent.nd rfl (by first | exact Or.inl rfl | exact Or.inr rfl)) pgs_nil)) (by rfl)))
          (pss_cons (ps_if (pt_cmpR op_eq (pv 6) pe_int (nomark _)) (pss_one (ps_asg (pe_tup (pa_cons (pe_ix ix_list (pe_lst (pa_cons pe_str (pa_cons pe_str (pa_cons (pe_op op_add_str (pv 10) pe_str) (pa_cons pe_str (pa_cons pe_str (pa_cons (pe_op op_add_str pe_str (pv 10)) (pa_cons (pe_op op_add_str (pv 10) pe_str) pa_nil)))))))) (pv 8) (fun _ _ => rfl)) (pa_cons (pv 11) pa_nil))) (pg_sub (pv 4) (pv 9) set_list))) pss_nil)
          (pss_cons (ps_if (pt_cmpR op_eq (pv 6) pe_int (nomark _)) (pss_one (ps_asg (pe_tup (pa_cons (pe_ix ix_tup (pe_ix ix_list (pv 4) (pe_op op_mod (pe_op op_fdivA (pv 7) pe_int) (pe_callB call_len_seq (by rfl) T.no_len (by decide +kernel) (pa_cons (pv 4) pa_nil))) (fun _ _ => rfl)) pe_int (fun _ _ => rfl)) (pa_cons (pv 11) pa_nil))) (pg_sub (pv 4) (pv 9) set_list))) pss_nil)
          (pss_one (ps_if (pt_cmpR op_eq (pv 6) pe_int (nomark _)) (pss_one (ps_asg (pe_tup (pa_cons (pv 10) (pa_cons (pe_ix ix_list (pe_lst (pa_cons pe_int (pa_cons (pe_op op_add (pv 3) pe_int) (pa_cons (pe_op op_sub pe_int pe_int) (pa_cons (pe_op op_sub pe_int (pv 3)) (pa_cons (pe_op op_mulW (pv 3) pe_int) (pa_cons pe_int (pa_cons (pe_op op_add (pv 3) (pv 8)) pa_nil)))))))) (pv 8) (fun _ _ => rfl)) pa_nil))) (pg_sub (pv 4) (pv 9) set_list))) pss_nil)))))) pss_nil))))
      (pss_one (ps_ret (pv 4))))), ?_⟩
    try simp only [cxK, Cx.nox, Cx.wish]
    rintro F ds d ⟨ns, k, b, rs, rfl, hn, h0, h1, b0, b1, hR, hl, rfl⟩ -
    show Blk K F [.imm (.lst (ns.map .int)), .imm (.int k), .imm (.lst (rs.map rowT)), .imm (.int b), .un, .un, .un, .un, .un, .un, .un, .un] _ _
    have nb : ∀ z : false = true, F.L = [] := fun z => by cases z
    refine Blk.seq (newOf (.var rfl) rfl) ?_
    walk_at "nrm"
    refine Blk.seqN (N := fun r => ∃ v5 v6 v7 v8 v9 v10 v11, r = [.imm (.lst (ns.map .int)), .imm (.int k), .imm (.lst (rs.map rowT)), .imm (.int b), .own (resL K ((bentF ns k b rs).map rowT)), v5, v6, v7, v8, v9, v10, v11]) ?_ ?_
    · refine Blk.for_ (GvI.range1 (j := 2) (GvA.cons .int .nil) (by decide) (by decide)) (fun i r => ∃ v5 v6 v7 v8 v9 v10 v11, r = [.imm (.lst (ns.map .int)), .imm (.int k), .imm (.lst (rs.map rowT)), .imm (.int b), .own (resL K ((seqF ns k b rs i).map rowT)), v5, v6, v7, v8, v9, v10, v11]) ⟨_, _, _, _, _, _, _, rfl⟩ ?_ ?_
      · rintro j d ρ1 hd ⟨v5, v6, v7, v8, v9, v10, v11, rfl⟩
        obtain ⟨hj, rfl⟩ := ups_get hd
        have hj : j < 2 := hj
        refine ⟨_, _, .name, ?_⟩
        walk_at "nrm"
        obtain ⟨hx, hxl⟩ := seqF_in (ns := ns) (k := k) hR b0 b1 j
        obtain ⟨how, place, one, hD, ⟨w0, w1⟩, ⟨p0, p1⟩, ⟨o0, o1⟩⟩ := drawn3 (digF_in (ns := ns) (k := k + (0 + (j : Nat))) (szs := [9, 97, 7]) (by decide))
        refine Blk.setG (d := .lst [.int how, .int place, .int one]) (GvE.call (GvA.cons (.var rfl) (GvA.cons (GvE.op (.var rfl) (.var rfl) rl_add) (GvA.cons (GvE.lst (GvA.cons .int (GvA.cons .int (GvA.cons .int .nil))) (Nat.le_of_ble_eq_true rfl)) .nil))) ⟨ns, _, [9, 97, 7], rfl, hn, by omega, by omega, by decide, by decide, by rw [hD]; rfl⟩ nb) (GvG.unl (GvG.cons .name (GvG.cons .name (GvG.cons .name GvG.nil))) rfl) ?_
        walk_at "nrm"
        have hnx : seqF ns k b rs (j + 1) = stepF how place one b (seqF ns k b rs j) := by
          show bentJ ns k b j (seqF ns k b rs j) = _
          unfold bentJ
          rw [hD]
          rfl
        rw [hnx]
        generalize seqF ns k b rs j = xs at *
        obtain ⟨hN, hE⟩ := rows_py hx (by omega) (by omega)
        have tst : ∀ {ρ : List Own.Slot}, ρ[4]? = some (.own (resL K (xs.map rowT))) → GvT K F ρ (tTest (tOp (rNeD K) (tVar 4) (tLst tNil))) (!PyData.eqv (.list (xs.map rowD)) (.list [])) := fun {ρ} h4 => GvT.lend 4 h4 (GvT.test (GvE.op (GvE.cast (.var (by
          have := (List.getElem?_eq_some_iff.mp h4).1
          rw [List.getElem?_set_self this])) hE.symm) (GvE.cast (GvE.lst .nil (by decide)) nil_py.2.symm) (rl_nePy hN nil_py.1)))
        by_cases hxe : xs = []
        · subst hxe
          have e : stepF how place one b [] = [] := by
            unfold stepF
            rw [if_pos rfl]
          rw [e]
          refine Blk.ifF (GvT.cast (tst rfl) ?_) (.nx ⟨_, _, _, _, _, _, _, rfl⟩)
          show (!PyData.eqv (.list []) (.list [])) = false
          rw [nil_py.1.refl]
          rfl
        · have xl : 1 ≤ xs.length := by
            cases xs with
            | nil => exact absurd rfl hxe
            | cons _ _ => simp
          refine Blk.ifT (GvT.cast (tst rfl) ?_) ?_
          · cases xs with
            | nil => exact absurd rfl hxe
            | cons _ _ => rfl
          have q0 := Int.emod_nonneg place (show ((xs.length : Nat) : Int) ≠ 0 by omega)
          have q1 := Int.emod_lt_of_pos place (show (0 : Int) < ((xs.length : Nat) : Int) by omega)
          have lenO : ∀ {ρ : List Own.Slot}, ρ[4]? = some (.own (resL K (xs.map rowT))) → GvE K F ρ (tCB (fun xs H Q => ∃ p ys, xs = [V.ref p] ∧ (SqL K H p ys ∨ SqT K H p ys) ∧ Q (V.int ys.length) H) (tCons (tVar 4) tNil)) (.int xs.length) := fun {ρ} h4 => GvE.lend 4 h4 (GvE.cast (d := .int (xs.map rowT).length) (.cb (GvA.cons (.var (by
            have := (List.getElem?_eq_some_iff.mp h4).1
            rw [List.getElem?_set_self this])) .nil) (rc_len (.inl rfl))) (by rw [List.length_map])) flat_int
          refine Blk.set_ (d := .int (place % (xs.length : Int))) (GvE.op (.var rfl) (lenO rfl) (rl_I (f := fun i j => i % j) (show (0 : Int) < ((xs.length : Nat) : Int) by omega))) ?_
          walk_at "nrm"
          have e0 : xs.getD (place % (xs.length : Int)).toNat (Str.empty, 0) = xs.getD (place % (xs.length : Int)).toNat (Str.empty, 0) := rfl
          have hr0 := getD_RwN hx (place % (xs.length : Int)).toNat
          refine Blk.setG (d := rowT (xs.getD (place % (xs.length : Int)).toNat (Str.empty, 0))) (ownIx rfl (.var rfl) (atI_mapD (Str.empty, 0) q0 q1)) (GvG.tup (GvG.cons .name (GvG.cons .name GvG.nil)) rfl) ?_
          walk_at "nrm"
          unfold stepF
          rw [if_neg hxe]
          unfold newR
          generalize xs.getD (place % (xs.length : Int)).toNat (Str.empty, 0) = r0 at *
          have hix : ixN (xs.map rowT).length (place % (xs.length : Int)) = some (place % (xs.length : Int)).toNat := by
            unfold ixN
            rw [if_pos q0, if_pos (by rw [List.length_map]; exact q1)]
          have no : ∀ {ρ : List Own.Slot} {c : Int}, ρ[6]? = some (.imm (.int how)) → how ≠ c → GvT K F ρ (tTest (tOp rEq (tVar 6) (tC (V.int c)))) false := fun h hc => GvT.cast (GvT.test (GvE.op (.var h) .int rl_eqI)) (decide_eq_false hc)
          have yes : ∀ {ρ : List Own.Slot} {c : Int}, ρ[6]? = some (.imm (.int how)) → how = c → GvT K F ρ (tTest (tOp rEq (tVar 6) (tC (V.int c)))) true := fun h hc => GvT.cast (GvT.test (GvE.op (.var h) .int rl_eqI)) (decide_eq_true hc)
          by_cases c0 : how = 0
          · refine Blk.seq (Blk.ifT (yes rfl c0) (Blk.setI (d := rowT ((nm7 r0.1).getD one.toNat Str.empty, r0.2)) rfl (GvE.tup (GvA.cons (GvE.op (d := .lst ((nm7 r0.1).map .str)) (GvE.lst (GvA.cons .str (GvA.cons .str (GvA.cons (GvE.op (.var rfl) .str (rl_catS (cat_le hr0.1 sm_7 (by omega)))) (GvA.cons .str (GvA.cons .str (GvA.cons (GvE.op .str (.var rfl) (rl_catS (cat_le sm_at hr0.1 (by omega)))) (GvA.cons (GvE.op (.var rfl) .str (rl_catS (cat_le hr0.1 sm_d (by omega)))) .nil))))))) (Nat.le_of_ble_eq_true rfl)) (.var rfl) (rl_ixL (atI_mapD Str.empty o0 (by show one < 7; exact o1)))) (GvA.cons (.var rfl) .nil)) (Nat.le_of_ble_eq_true rfl)) (.var rfl) hix rfl)) ?_
            walk_at "nrm"
            refine Blk.seq (Blk.ifF (no rfl (by omega)) (.nx rfl)) ?_
            refine Blk.ifF (no rfl (by omega)) (.nx ?_)
            rw [if_pos (Or.inl c0), if_pos c0, List.map_set]
            exact ⟨_, _, _, _, _, _, _, rfl⟩
          · refine Blk.seq (Blk.ifF (no rfl c0) (.nx rfl)) ?_
            by_cases c1 : how = 1
            · have g0 := Int.emod_nonneg (place.fdiv 7) (show ((xs.length : Nat) : Int) ≠ 0 by omega)
              have g1 := Int.emod_lt_of_pos (place.fdiv 7) (show (0 : Int) < ((xs.length : Nat) : Int) by omega)
              refine Blk.seq (Blk.ifT (yes rfl c1) (Blk.setI (d := rowT ((xs.getD (place.fdiv 7 % (xs.length : Int)).toNat (Str.empty, 0)).1, r0.2)) rfl (GvE.tup (GvA.cons (GvE.op (ownIx rfl (GvE.op (GvE.op (.var rfl) .int (rl_I (f := fun i j => i.fdiv j) (divA_of 10 (by decide) (by decide) (by decide) (by decide)))) (lenO rfl) (rl_I (f := fun i j => i % j) (show (0 : Int) < ((xs.length : Nat) : Int) by omega))) (atI_mapD (Str.empty, 0) g0 g1)) .int (rl_ixT atI_0)) (GvA.cons (.var rfl) .nil)) (Nat.le_of_ble_eq_true rfl)) (.var rfl) hix rfl)) ?_
              walk_at "nrm"
              refine Blk.ifF (no rfl (by omega)) (.nx ?_)
              rw [if_pos (Or.inr (Or.inl c1)), if_neg c0, if_pos c1, List.map_set]
              exact ⟨_, _, _, _, _, _, _, rfl⟩
            · refine Blk.seq (Blk.ifF (no rfl c1) (.nx rfl)) ?_
              by_cases c2 : how = 2
              · refine Blk.ifT (yes rfl c2) (Blk.setI (d := rowT (r0.1, (nb7 b one).getD one.toNat 0)) rfl (GvE.tup (GvA.cons (.var rfl) (GvA.cons (GvE.op (d := .lst ((nb7 b one).map .int)) (GvE.lst (GvA.cons .int (GvA.cons (GvE.op (.var rfl) .int rl_add) (GvA.cons (GvE.op .int .int rl_sub) (GvA.cons (GvE.op .int (.var rfl) rl_sub) (GvA.cons (GvE.op (.var rfl) .int (rl_I (mulW64 (by omega) (by decide)))) (GvA.cons .int (GvA.cons (GvE.op (.var rfl) (.var rfl) rl_add) .nil))))))) (Nat.le_of_ble_eq_true rfl)) (.var rfl) (rl_ixL (atI_mapD 0 o0 (by show one < 7; exact o1)))) .nil)) (Nat.le_of_ble_eq_true rfl)) (.var rfl) hix ?_)
                rw [if_pos (Or.inr (Or.inr c2)), if_neg c0, if_neg c1, if_pos c2, List.map_set]
                exact ⟨_, _, _, _, _, _, _, rfl⟩
              · refine Blk.ifF (no rfl c2) (.nx ?_)
                rw [if_neg (by omega)]
                exact ⟨_, _, _, _, _, _, _, rfl⟩
      · rintro ρ1 ⟨v5, v6, v7, v8, v9, v10, v11, rfl⟩
        exact ⟨_, _, _, _, _, _, _, rfl⟩
    · rintro _ ⟨v5, v6, v7, v8, v9, v10, v11, rfl⟩
      refine Blk.freeL (i := 4) rfl ?_
      exact Blk.ret (.var rfl) rfl

end
end My

set_option Elab.async false
set_option maxRecDepth 100000
set_option maxHeartbeats 4000000
set_option linter.all false
namespace My
open PySem L2 Own
section
variable {P : Program} [PO P] {w : World} {K : PySem.W.Frag} {mg : Str → Option Value} {base : Heap} {a : Adr}
local macro_rules | `(tactic| walk_at "gv") => `(tactic| first
  | (with_reducible first | exact GvE.int | exact GvE.str | exact GvE.bl | exact GvE.non | exact GvE.glob | exact GvE.ty | exact GvA.nil | exact GvT.yes | exact GvO.no | exact GvE.dnew)
  | ((with_reducible apply GvE.var); rfl)
  | ((with_reducible apply GvA.cons) <;> walk_at "gv")
  | ((with_reducible apply GvE.op) <;> walk_at "gv")
  | ((with_reducible first | apply rl_add | apply rl_sub | apply rl_lt | apply rl_le | apply rl_gt | apply rl_ge | apply rl_eqI | apply rl_eqS | apply rl_neI | apply rl_neS | apply rl_neg | apply rl_slL | apply rl_slT | apply rl_inL | apply rl_ninL | apply rl_inT | apply rl_ninT | apply rl_inS | apply rl_ninS | apply rl_isN | apply rl_notN | apply rc_abs | apply rc_max | apply rc_min | apply rc_tupL | apply rc_all | apply rc_any | apply rc_sum | apply rm_starts | apply rc_len (.inl rfl) | apply rc_len (.inr rfl) | apply rc_list (.inl rfl) | apply rc_list (.inr rfl) | apply rl_I | apply rl_cat | apply rl_catT | apply rl_catS | apply rl_ixL | apply rl_ixT | apply rl_ixS | apply rl_ixK | apply rl_slS | apply rc_lenS | apply rc_strI) <;> try first | decide | exact ⟨by decide, by decide⟩ | exact ⟨by decide, by decide, by decide⟩ | with_reducible (first | exact atI_0 | exact atI_1 | exact atI_2 | exact atI_3 | exact atI_4 | exact atI_5))
  | ((with_reducible apply GvE.cb) <;> walk_at "gv")
  | ((with_reducible apply GvE.un) <;> walk_at "gv")
  | ((with_reducible apply GvE.sl) <;> walk_at "gv")
  | ((with_reducible apply GvO.of) <;> walk_at "gv")
  | ((with_reducible apply GvE.m1) <;> walk_at "gv")
  | ((with_reducible apply GvE.m0) <;> walk_at "gv")
  | ((with_reducible apply GvE.tup) <;> walk_at "gv")
  | ((with_reducible apply GvE.lst) <;> walk_at "gv")
  | ((with_reducible apply GvT.test) <;> walk_at "gv")
  | ((with_reducible apply GvT.val) <;> walk_at "gv")
  | ((with_reducible apply GvT.not) <;> walk_at "gv")
  | ((with_reducible apply GvE.notV) <;> walk_at "gv")
  | ((with_reducible apply GvE.call) <;> walk_at "gv")
  | ((with_reducible first | apply GvT.and | apply GvT.or | apply GvE.andV | apply GvE.orV) <;> first | (intro _; walk_at "gv") | walk_at "gv")
  | decide | exact Nat.le_of_ble_eq_true rfl | skip)
local macro_rules | `(tactic| walk_at "nrm") => `(tactic| try simp only [List.set_cons_zero, List.set_cons_succ])
local macro_rules | `(tactic| walk_at "set") => `(tactic| first | ((with_reducible apply Blk.set_); focus walk_at "gv") | skip)
local macro_rules | `(tactic| walk_at "ret") => `(tactic| first | ((with_reducible apply Blk.ret); focus walk_at "gv") | skip)
local macro_rules | `(tactic| walk_at "if") => `(tactic| first | ((with_reducible apply Blk.ifS); focus walk_at "gv") | skip)
local macro_rules | `(tactic| walk_at "asg") => `(tactic| first | ((with_reducible apply Blk.asg); focus walk_at "gv") | skip)
local macro_rules | `(tactic| walk_at "setG") => `(tactic| first | ((with_reducible apply Blk.setG); focus walk_at "gv") | skip)
local macro_rules | `(tactic| walk_at "app") => `(tactic| first | (((with_reducible apply Blk.append); focus rfl); focus walk_at "gv") | skip)
local macro_rules | `(tactic| walk_at "gg") => `(tactic| first
  | (with_reducible first | exact GvG.name | exact GvG.nil)
  | ((with_reducible apply GvG.cons) <;> walk_at "gg")
  | ((with_reducible first | apply GvG.tup | apply GvG.unl) <;> walk_at "gg")
  | decide | rfl | skip)
local macro_rules | `(tactic| walk_at "ifF") => `(tactic| first | ((with_reducible apply Blk.ifF); focus ((with_reducible apply GvT.cast); focus walk_at "gv")) | skip)
local macro_rules | `(tactic| walk_at "ifT") => `(tactic| first | ((with_reducible apply Blk.ifT); focus ((with_reducible apply GvT.cast); focus walk_at "gv")) | skip)
local macro_rules | `(tactic| walk_at "expr") => `(tactic| first | ((with_reducible apply Blk.expr); focus walk_at "gv") | skip)

/-! ### _law_look -/
def lookD : Option (Str × D) → D
  | none => .tup [.str "", .non]
  | some q => .tup [.str q.1, q.2]
def R_look (ds : List D) (d : D) : Prop := ∃ (rs : List (Str × Int)) (m b : Int), ds = [.lst (rs.map rowT), .int m, .int b] ∧ Rows rs ∧ rs.length ≤ 1000 ∧ d = lookD (lookF rs m b)
theorem lookR_cons {b : Int} {seen : List Str} {r : Str × Int} {rs : List (Str × Int)} : lookR b seen (r :: rs) = if okN r.1 = false then some (("BadName" : Str), .str r.1) else if r.1 ∈ seen then some (("Taken" : Str), .str r.1) else if ¬ (1 ≤ r.2 ∧ r.2 ≤ b) then some (("BadNumber" : Str), .int r.2) else lookR b (seen ++ [r.1]) rs := rfl
theorem ok_l_look (T : Tx a K mg w) : FnOk P w K mg base CX0 2 a.f_l_look a.d_l_look ps_l_look (spD K false R_look) := by
  refine okP T.F_l_look sc_l_look (fun ds d h => ?_) (fun cdv A outer s H X hr => ?_)
  · obtain ⟨rs, m, b, rfl, _⟩ := h
    rfl
  · have hu := hu_of hr
    have G_l_name_ok := ok_l_name_ok (P := P) (w := w) (base := base) T
    have B_l_name_ok := bnd_l_name_ok T
    have hr_l_name_ok : Room 1 _ := hr.mono (by decide)
    refine ⟨_, (pss_cons (ps_if (pt_not (pt_chain op_le op_le pe_int (pe_callB call_len_seq (by rfl) T.no_len (by decide +kernel) (pa_cons (pv 0) pa_nil)) (pv 1))) (pss_one (ps_ret (pe_tup (pa_cons pe_str (pa_cons (pe_callB call_len_seq (by rfl) T.no_len (by decide +kernel) (pa_cons (pv 0) pa_nil)) pa_nil))))) pss_nil)
      (pss_cons (ps_set (i := 3) sc_l_look.nd rfl (by first | exact Or.inl rfl | exact Or.inr rfl) (pe_lst pa_nil))
      (pss_cons (ps_for PassesOwn.never rfl (pi_list (pv 0)) (pg_tup rfl (pgs_cons (pg_name (i := 4) sc_l_look.nd rfl (by first | exact Or.inl rfl | exact Or.inr rfl)) (pgs_cons (pg_name (i := 5) sc_l_look.nd rfl (by first | exact Or.inl rfl | exact Or.inr rfl)) pgs_nil)) (by rfl))
        (pss_cons (ps_if (pt_not (pt_val (pe_call G_l_name_ok hr_l_name_ok (by rfl) T.mg_l_name_ok T.F_l_name_ok.kp B_l_name_ok .nil pass0 (pa_cons (pv 4) pa_nil)))) (pss_one (ps_ret (pe_tup (pa_cons pe_str (pa_cons (pv 4) pa_nil))))) pss_nil)
        (pss_cons (ps_if (pt_cmpR op_in_seq (pv 4) (pv 3) (by rfl)) (pss_one (ps_ret (pe_tup (pa_cons pe_str (pa_cons (pv 4) pa_nil))))) pss_nil)
        (pss_cons (ps_if (pt_not (pt_chain op_le op_le pe_int (pv 5) (pv 2))) (pss_one (ps_ret (pe_tup (pa_cons pe_str (pa_cons (pv 5) pa_nil))))) pss_nil)
        (pss_one (ps_expr (pe_bm PySem.F.plainAttrs_list PySem.F.slot_list_append PySem.F.type_list_append mt_append (pv 3) (pa_cons (pv 4) pa_nil))))))))
      (pss_one (ps_ret (pe_tup (pa_cons pe_str (pa_cons pe_non pa_nil)))))))), ?_⟩
    try simp only [cxK, Cx.nox, Cx.wish]
    rintro F ds d ⟨rs, m, b, rfl, hR, lt, rfl⟩ -
    show Blk K F [.imm (.lst (rs.map rowT)), .imm (.int m), .imm (.int b), .un, .un, .un] _ _
    have nb : ∀ z : false = true, F.L = [] := fun z => by cases z
    have lenE : ∀ {ρ : List Own.Slot}, ρ[0]? = some (.imm (.lst (rs.map rowT))) → GvE K F ρ (tCB (fun xs H Q => ∃ p ys, xs = [V.ref p] ∧ (SqL K H p ys ∨ SqT K H p ys) ∧ Q (V.int ys.length) H) (tCons (tVar 0) tNil)) (.int rs.length) := fun h => GvE.cast (d := .int (rs.map rowT).length) (.cb (GvA.cons (.var h) .nil) (rc_len (.inl rfl))) (by rw [List.length_map])
    by_cases hl : 1 ≤ (rs.length : Int) ∧ (rs.length : Int) ≤ m
    · have hq : lookF rs m b = lookR b [] rs := by
        unfold lookF
        rw [if_neg (fun z => z hl)]
      rw [hq]
      refine Blk.seq (ρ1 := [.imm (.lst (rs.map rowT)), .imm (.int m), .imm (.int b), .un, .un, .un]) (Blk.ifF (GvT.cast (GvT.not (GvT.test (GvE.chain .int (lenE rfl) rl_le (fun _ => .var rfl) rl_le))) (by rw [decide_eq_true hl.1, decide_eq_true hl.2]; rfl)) (.nx rfl)) ?_
      refine Blk.seq (Blk.newL .nil (by decide) rfl) ?_
      walk_at "nrm"
      refine Blk.seqN (N := fun r => (∃ v3 v4 v5, r = [.imm (.lst (rs.map rowT)), .imm (.int m), .imm (.int b), v3, v4, v5]) ∧ lookR b [] rs = none) ?_ ?_
      · refine Blk.for_ (GvI.lst (.var rfl)) (fun i r => (∃ v4 v5, r = [.imm (.lst (rs.map rowT)), .imm (.int m), .imm (.int b), .own (resL K (((rs.take i).map (·.1)).map .str)), v4, v5]) ∧ lookR b [] rs = lookR b ((rs.take i).map (·.1)) (rs.drop i)) ⟨⟨_, _, rfl⟩, rfl⟩ ?_ ?_
        · rintro i d ρ1 hd ⟨⟨v4, v5, rfl⟩, hL⟩
          obtain ⟨r, hr, rfl⟩ := Own.map_at hd
          have hm := List.mem_of_getElem? hr
          have hi2 := (List.getElem?_eq_some_iff.mp hr).1
          rw [List.drop_eq_getElem_cons hi2, (List.getElem?_eq_some_iff.mp hr).2] at hL
          have hrs := hR r hm
          refine ⟨_, _, GvG.tup (GvG.cons .name (GvG.cons .name GvG.nil)) rfl, ?_⟩
          walk_at "nrm"
          rw [lookR_cons] at hL
          by_cases h1 : okN r.1 = false
          · rw [if_pos h1] at hL
            refine Blk.seqN (N := fun _ => False) (Blk.ifT (GvT.cast (GvT.not (GvT.val (GvE.call (GvA.cons (.var rfl) .nil) ⟨r.1, rfl, hrs, rfl⟩ nb))) (by rw [h1]; rfl)) (Blk.ret (GvE.tup (GvA.cons .str (GvA.cons (.var rfl) .nil)) (Nat.le_of_ble_eq_true rfl)) ?_)) fun _ z => z.elim
            show _ = lookD (lookR b [] rs)
            rw [show lookR b [] rs = _ from hL]
            rfl
          · rw [if_neg h1] at hL
            have h1 : okN r.1 = true := by simpa using h1
            refine Blk.seq (Blk.ifF (GvT.cast (GvT.not (GvT.val (GvE.call (GvA.cons (.var rfl) .nil) ⟨r.1, rfl, hrs, rfl⟩ nb))) (by rw [h1]; rfl)) (.nx rfl)) ?_
            by_cases h2 : r.1 ∈ (rs.take i).map (·.1)
            · rw [if_pos h2] at hL
              refine Blk.seqN (N := fun _ => False) (Blk.ifT (GvT.lend 3 rfl (GvT.cast (GvT.test (GvE.op (.var rfl) (.var rfl) rl_inL)) (decide_eq_true h2))) (Blk.ret (GvE.tup (GvA.cons .str (GvA.cons (.var rfl) .nil)) (Nat.le_of_ble_eq_true rfl)) ?_)) fun _ z => z.elim
              show _ = lookD (lookR b [] rs)
              rw [show lookR b [] rs = _ from hL]
              rfl
            · rw [if_neg h2] at hL
              refine Blk.seq (Blk.ifF (GvT.lend 3 rfl (GvT.cast (GvT.test (GvE.op (.var rfl) (.var rfl) rl_inL)) (decide_eq_false h2))) (.nx rfl)) ?_
              by_cases h3 : 1 ≤ r.2 ∧ r.2 ≤ b
              · rw [if_neg (fun z => z h3)] at hL
                refine Blk.seq (Blk.ifF (GvT.cast (GvT.not (GvT.test (GvE.chain .int (.var rfl) rl_le (fun _ => .var rfl) rl_le))) (by rw [decide_eq_true h3.1, decide_eq_true h3.2]; rfl)) (.nx rfl)) ?_
                refine Blk.append (d := .str r.1) rfl (.var rfl) ?_ ?_
                · rw [List.length_map, List.length_map, List.length_take]
                  omega
                · refine ⟨⟨.imm (.str r.1), .imm (.int r.2), ?_⟩, ?_⟩
                  · walk_at "nrm"
                    rw [take_snoc hr, List.map_append, List.map_append]
                    rfl
                  · rw [take_snoc hr, List.map_append]
                    exact hL
              · rw [if_pos h3] at hL
                refine Blk.seqN (N := fun _ => False) (Blk.ifT (GvT.cast (GvT.not (GvT.test (GvE.chain .int (.var rfl) rl_le (fun _ => .var rfl) rl_le))) ?_) (Blk.ret (GvE.tup (GvA.cons .str (GvA.cons (.var rfl) .nil)) (Nat.le_of_ble_eq_true rfl)) ?_)) fun _ z => z.elim
                · rw [← Bool.decide_and, decide_eq_false h3]
                  rfl
                · show _ = lookD (lookR b [] rs)
                  rw [show lookR b [] rs = _ from hL]
                  rfl
        · rintro ρ1 ⟨⟨v4, v5, rfl⟩, hL⟩
          refine ⟨⟨_, _, _, rfl⟩, ?_⟩
          rw [hL, List.length_map, List.drop_length]
          rfl
      · rintro _ ⟨⟨v3, v4, v5, rfl⟩, hL⟩
        rw [hL]
        exact Blk.ret (GvE.tup (GvA.cons .str (GvA.cons .non .nil)) (Nat.le_of_ble_eq_true rfl)) rfl
    · have hq : lookF rs m b = some (("BadCount" : Str), .int rs.length) := by
        unfold lookF
        rw [if_pos hl]
      rw [hq]
      refine Blk.seqN (N := fun _ => False) (Blk.ifT (GvT.cast (GvT.not (GvT.test (GvE.chain .int (lenE rfl) rl_le (fun _ => .var rfl) rl_le))) ?_) (Blk.ret (GvE.tup (GvA.cons .str (GvA.cons (lenE rfl) .nil)) (Nat.le_of_ble_eq_true rfl)) rfl)) fun _ z => z.elim
      rw [← Bool.decide_and, decide_eq_false hl]
      rfl

end
end My

set_option Elab.async false
set_option maxRecDepth 100000
set_option maxHeartbeats 4000000
set_option linter.all false
namespace My
open PySem L2 Own
section
variable {P : Program} [PO P] {w : World} {K : PySem.W.Frag} {mg : Str → Option Value} {base : Heap} {a : Adr}
local macro_rules | `(tactic| walk_at "gv") => `(tactic| first
  | (with_reducible first | exact GvE.int | exact GvE.str | exact GvE.bl | exact GvE.non | exact GvE.glob | exact GvE.ty | exact GvA.nil | exact GvT.yes | exact GvO.no | exact GvE.dnew)
  | ((with_reducible apply GvE.var); rfl)
  | ((with_reducible apply GvA.cons) <;> walk_at "gv")
  | ((with_reducible apply GvE.op) <;> walk_at "gv")
  | ((with_reducible first | apply rl_add | apply rl_sub | apply rl_lt | apply rl_le | apply rl_gt | apply rl_ge | apply rl_eqI | apply rl_eqS | apply rl_neI | apply rl_neS | apply rl_neg | apply rl_slL | apply rl_slT | apply rl_inL | apply rl_ninL | apply rl_inT | apply rl_ninT | apply rl_inS | apply rl_ninS | apply rl_isN | apply rl_notN | apply rc_abs | apply rc_max | apply rc_min | apply rc_tupL | apply rc_all | apply rc_any | apply rc_sum | apply rm_starts | apply rc_len (.inl rfl) | apply rc_len (.inr rfl) | apply rc_list (.inl rfl) | apply rc_list (.inr rfl) | apply rl_I | apply rl_cat | apply rl_catT | apply rl_catS | apply rl_ixL | apply rl_ixT | apply rl_ixS | apply rl_ixK | apply rl_slS | apply rc_lenS | apply rc_strI) <;> try first | decide | exact ⟨by decide, by decide⟩ | exact ⟨by decide, by decide, by decide⟩ | with_reducible (first | exact atI_0 | exact atI_1 | exact atI_2 | exact atI_3 | exact atI_4 | exact atI_5))
  | ((with_reducible apply GvE.cb) <;> walk_at "gv")
  | ((with_reducible apply GvE.un) <;> walk_at "gv")
  | ((with_reducible apply GvE.sl) <;> walk_at "gv")
  | ((with_reducible apply GvO.of) <;> walk_at "gv")
  | ((with_reducible apply GvE.m1) <;> walk_at "gv")
  | ((with_reducible apply GvE.m0) <;> walk_at "gv")
  | ((with_reducible apply GvE.tup) <;> walk_at "gv")
  | ((with_reducible apply GvE.lst) <;> walk_at "gv")
  | ((with_reducible apply GvT.test) <;> walk_at "gv")
  | ((with_reducible apply GvT.val) <;> walk_at "gv")
  | ((with_reducible apply GvT.not) <;> walk_at "gv")
  | ((with_reducible apply GvE.notV) <;> walk_at "gv")
  | ((with_reducible apply GvE.call) <;> walk_at "gv")
  | ((with_reducible first | apply GvT.and | apply GvT.or | apply GvE.andV | apply GvE.orV) <;> first | (intro _; walk_at "gv") | walk_at "gv")
  | decide | exact Nat.le_of_ble_eq_true rfl | skip)
local macro_rules | `(tactic| walk_at "nrm") => `(tactic| try simp only [List.set_cons_zero, List.set_cons_succ])
local macro_rules | `(tactic| walk_at "set") => `(tactic| first | ((with_reducible apply Blk.set_); focus walk_at "gv") | skip)
local macro_rules | `(tactic| walk_at "ret") => `(tactic| first | ((with_reducible apply Blk.ret); focus walk_at "gv") | skip)
local macro_rules | `(tactic| walk_at "if") => `(tactic| first | ((with_reducible apply Blk.ifS); focus walk_at "gv") | skip)
local macro_rules | `(tactic| walk_at "asg") => `(tactic| first | ((with_reducible apply Blk.asg); focus walk_at "gv") | skip)
local macro_rules | `(tactic| walk_at "setG") => `(tactic| first | ((with_reducible apply Blk.setG); focus walk_at "gv") | skip)
local macro_rules | `(tactic| walk_at "app") => `(tactic| first | (((with_reducible apply Blk.append); focus rfl); focus walk_at "gv") | skip)
local macro_rules | `(tactic| walk_at "gg") => `(tactic| first
  | (with_reducible first | exact GvG.name | exact GvG.nil)
  | ((with_reducible apply GvG.cons) <;> walk_at "gg")
  | ((with_reducible first | apply GvG.tup | apply GvG.unl) <;> walk_at "gg")
  | decide | rfl | skip)
local macro_rules | `(tactic| walk_at "ifF") => `(tactic| first | ((with_reducible apply Blk.ifF); focus ((with_reducible apply GvT.cast); focus walk_at "gv")) | skip)
local macro_rules | `(tactic| walk_at "ifT") => `(tactic| first | ((with_reducible apply Blk.ifT); focus ((with_reducible apply GvT.cast); focus walk_at "gv")) | skip)
local macro_rules | `(tactic| walk_at "expr") => `(tactic| first | ((with_reducible apply Blk.expr); focus walk_at "gv") | skip)

/-! ### _law_same, of plain data -/
theorem ok_l_same (T : Tx a K mg w) : FnG P w K mg base CX0 2 a.f_l_same a.d_l_same ps_l_same (spD K false R_same) := by
  refine okPG T.F_l_same sc_l_same (fun ds d h => ?_) (fun cdv A outer s H X hgd hr => ?_)
  · obtain ⟨p, _, rfl, _⟩ := h
    rfl
  · have hu := hu_of hr
    refine ⟨_, (pss_cons (ps_if (pt_val (pe_callB call_isi (by rfl) T.no_isinstance (by decide +kernel) (pa_cons (pv 1) (pa_cons (pe_bltn (v := V.ty "dict") (by rfl) T.no_dict (by decide +kernel) rfl) pa_nil)))) (pss_one ps_never) pss_nil)
      (pss_one (ps_ret (pe_and (pe_cmpR (op_eqD hr.units) (pv 0) (pv 1) (nomark _)) (pe_one (pe_cmpR op_eq (pe_callB (call_reprD hgd (hr.mono (by decide))) (by rfl) T.no_repr (by decide +kernel) (pa_cons (pv 0) pa_nil)) (pe_callB (call_reprD hgd (hr.mono (by decide))) (by rfl) T.no_repr (by decide +kernel) (pa_cons (pv 1) pa_nil)) (nomark _))))))), ?_⟩
    try simp only [cxK, Cx.nox, Cx.wish]
    rintro F ds d ⟨p, hp, rfl, rfl⟩ -
    show Blk K F [.imm (ofPy p), .imm (ofPy p)] _ _
    refine Blk.seq (Blk.ifF (GvT.val (GvE.cb (GvA.cons (.var rfl) (GvA.cons .ty .nil)) (rc_isDictPy hp))) (.nx rfl)) ?_
    refine Blk.ret (GvE.andV (GvE.op (.var rfl) (.var rfl) (rl_eqPy hp hp)) fun _ => GvE.op (GvE.cb (GvA.cons (.var rfl) .nil) (rc_reprPy hp)) (GvE.cb (GvA.cons (.var rfl) .nil) (rc_reprPy hp)) rl_eqS) ?_
    show D.bl _ = D.bl true
    rw [hp.refl, decide_eq_true rfl]
    rfl

/-! ### the law -/
theorem due_py {wd : Str} {g : PyData} (hw : Small wd 100) (hg : Mild g 2000 0) : Neat (.tuple [.str wd, g]) :=
  (Mild.tuple (ds := [.str wd, g]) (n := 2000) (k := 0) (m := 2) (fun d hd => by
    simp only [List.mem_cons, List.not_mem_nil, or_false] at hd
    rcases hd with rfl | rfl
    · exact (Mild.str hw).mono (by decide) (Nat.le_refl _)
    · exact hg) (Nat.le_refl 2)).neat (by decide) (by decide)
theorem mild_non : Mild .none 2000 0 := ⟨rfl, rfl, Nat.le_refl _, by decide +kernel⟩
theorem words_small {z : Str} (h : z ∈ words4) : Small z 100 := by
  unfold words4 at h
  simp only [List.mem_cons, List.not_mem_nil, or_false] at h
  rcases h with rfl | rfl | rfl | rfl <;> exact ⟨by decide +kernel, by decide +kernel⟩
theorem w4_all : ("BadName" : Str) ∈ words4 ∧ ("Taken" : Str) ∈ words4 ∧ ("BadNumber" : Str) ∈ words4 ∧ ("BadCount" : Str) ∈ words4 := by decide +kernel
theorem w4_ne : ∀ z ∈ words4, z ≠ "" := by decide +kernel
theorem lookR_facts {b : Int} {n : Nat} (hn : n ≤ 100) : ∀ {rs : List (Str × Int)} {seen : List Str} {q : Str × D}, RwN n rs → lookR b seen rs = some q → q.1 ∈ words4 ∧ ∃ g, Mild g 2000 0 ∧ ofPy g = q.2
  | [], _, _, _, h => by cases h
  | r :: rs, seen, q, hR, h => by
    obtain ⟨r1, r2⟩ := hR r List.mem_cons_self
    have ms : ∃ g, Mild g 2000 0 ∧ ofPy g = D.str r.1 := ⟨.str r.1, (Mild.str (r1.mono hn)).mono (by decide) (Nat.le_refl _), rfl⟩
    have mi : ∃ g, Mild g 2000 0 ∧ ofPy g = D.int r.2 := ⟨.int r.2, (Mild.int (by
      by_cases h0 : r.2.natAbs = 0
      · rw [h0]
        decide
      · exact (Nat.log2_lt h0).mpr (Nat.lt_of_lt_of_le r2 (Nat.pow_le_pow_right (by decide) (by decide))))).mono (by decide) (Nat.le_refl _), rfl⟩
    rw [lookR_cons] at h
    split at h
    · cases h
      exact ⟨w4_all.1, ms⟩
    · split at h
      · cases h
        exact ⟨w4_all.2.1, ms⟩
      · split at h
        · cases h
          exact ⟨w4_all.2.2.1, mi⟩
        · exact lookR_facts hn (fun e he => hR e (List.mem_cons_of_mem _ he)) h
theorem lookF_facts {m b : Int} {n : Nat} {rs : List (Str × Int)} {q : Str × D} (hn : n ≤ 100) (hR : RwN n rs) (hl : rs.length ≤ 1000) (h : lookF rs m b = some q) : q.1 ∈ words4 ∧ ∃ g, Mild g 2000 0 ∧ ofPy g = q.2 := by
  unfold lookF at h
  split at h
  · cases h
    refine ⟨w4_all.2.2.2, .int rs.length, (Mild.int ?_).mono (by decide) (Nat.le_refl _), rfl⟩
    by_cases h0 : (rs.length : Int).natAbs = 0
    · rw [h0]
      decide
    · exact (Nat.log2_lt h0).mpr (Nat.lt_of_lt_of_le (show _ < 2 ^ 64 by omega) (Nat.pow_le_pow_right (by decide) (by decide)))
  · exact lookR_facts hn hR h
theorem look_py {o : Option (Str × D)} (h : ∀ q, o = some q → q.1 ∈ words4 ∧ ∃ g, Mild g 2000 0 ∧ ofPy g = q.2) : ∃ p, Neat p ∧ ofPy p = lookD o := by
  cases o with
  | none => exact ⟨.tuple [.str "", .none], due_py ⟨Nat.zero_le _, by decide +kernel⟩ mild_non, by rw [ofPy_tuple]; rfl⟩
  | some q =>
    obtain ⟨hw, g, hg, eg⟩ := h q rfl
    refine ⟨.tuple [.str q.1, g], due_py (words_small hw) hg, ?_⟩
    rw [ofPy_tuple]
    show D.tup [.str q.1, ofPy g] = _
    rw [eg]
    rfl
theorem kdW (T : Tx a K mg w) {z : Str} (h : z ∈ words4) : KdF a K (clsW a z) z ∧ PySem.W.exmOne K (.ref (clsW a z)) (.ref a.C_RoofError) = some true := by
  unfold words4 at h
  simp only [List.mem_cons, List.not_mem_nil, or_false] at h
  rcases h with rfl | rfl | rfl | rfl
  · rw [cls4.1]
    exact ⟨kd_BadName T, PySem.W.exm_ref T.xb_RoofError T.xi_RoofError T.xt_RoofError T.xe_BadName_RoofError⟩
  · rw [cls4.2.1]
    exact ⟨kd_Taken T, PySem.W.exm_ref T.xb_RoofError T.xi_RoofError T.xt_RoofError T.xe_Taken_RoofError⟩
  · rw [cls4.2.2.1]
    exact ⟨kd_BadNumber T, PySem.W.exm_ref T.xb_RoofError T.xi_RoofError T.xt_RoofError T.xe_BadNumber_RoofError⟩
  · rw [cls4.2.2.2]
    exact ⟨kd_BadCount T, PySem.W.exm_ref T.xb_RoofError T.xi_RoofError T.xt_RoofError T.xe_BadCount_RoofError⟩
theorem numF_b {ns : List Int} {k b : Int} {j : Nat} (hj : j < 12) (b0 : 0 ≤ b) (b1 : b ≤ 1000000000) : (numF ns k b j).natAbs < 2 ^ 64 := by
  obtain ⟨x, y, hD, ⟨x0, x1⟩, ⟨y0, y1⟩⟩ := drawn2 (digF_in (ns := ns) (k := k + (0 + (j : Nat)) % 3) (szs := [9973, 5]) (by decide))
  unfold numF
  rw [hD]
  show (pk [1, b, 1 + x, 1 + x * (0 + (j : Nat)), b - (0 + (j : Nat))] y).natAbs < 2 ^ 64
  have hxj : 0 ≤ x * (0 + (j : Int)) ∧ x * (0 + (j : Int)) ≤ 9973 * 12 := ⟨Int.mul_nonneg x0 (by omega), Int.mul_le_mul (by omega) (by omega) (by omega) (by decide)⟩
  unfold pk
  rw [List.getD_eq_getElem?_getD]
  cases e : [1, b, 1 + x, 1 + x * (0 + (j : Int)), b - (0 + (j : Int))][y.toNat]? with
  | none => decide
  | some v =>
    have hv := List.mem_of_getElem? e
    simp only [List.mem_cons, List.not_mem_nil, or_false] at hv
    show v.natAbs < 2 ^ 64
    rcases hv with rfl | rfl | rfl | rfl | rfl <;> omega
theorem rowsF_in {ns : List Int} {k m b : Int} (m1 : m ≤ 12) (b0 : 0 ≤ b) (b1 : b ≤ 1000000000) : RwN 6 (rowsF ns k m b) ∧ (rowsF ns k m b).length = m.toNat := by
  refine ⟨fun r hr => ?_, by simp [rowsF]⟩
  obtain ⟨j, hj, rfl⟩ := List.mem_map.mp hr
  have hj := List.mem_range.mp hj
  refine ⟨?_, numF_b (by omega) b0 b1⟩
  show Small ((namesF ns k m.toNat).getD j Str.empty) 6
  rw [List.getD_eq_getElem?_getD]
  cases e : (namesF ns k m.toNat)[j]? with
  | none => exact ⟨Nat.zero_le _, by decide +kernel⟩
  | some y =>
    obtain ⟨k, hk, _, h6⟩ := (namesF_good (ns := ns) (k := k) (m := m.toNat) (by omega)).each y (List.mem_of_getElem? e)
    exact hk.small.mono h6
theorem hand_py {cs hs : List (Str × Int)} (hc : RwN 8 cs) (hh : RwN 8 hs) (lc : cs.length ≤ 100) (lh : hs.length ≤ 100) : Neat (.list [.list (cs.map rowD), .list (hs.map rowD)]) ∧ ofPy (.list [.list (cs.map rowD), .list (hs.map rowD)]) = .lst [.lst (cs.map rowT), .lst (hs.map rowT)] := by
  have md : ∀ {rs : List (Str × Int)}, RwN 8 rs → rs.length ≤ 100 → Mild (.list (rs.map rowD)) (2 + 100 * (4000 + 2)) 2 := fun {rs} h hl => Mild.list (n := 4000) (k := 1) (m := 100) (fun d hd => by
    obtain ⟨r, hr, rfl⟩ := List.mem_map.mp hd
    obtain ⟨h1, h2⟩ := h r hr
    refine Mild.row h1 (by decide) ?_
    by_cases h0 : r.2.natAbs = 0
    · rw [h0]
      decide
    · exact (Nat.log2_lt h0).mpr (Nat.lt_of_lt_of_le h2 (Nat.pow_le_pow_right (by decide) (by decide)))) (by rw [List.length_map]; exact hl)
  constructor
  · refine (Mild.list (ds := [.list (cs.map rowD), .list (hs.map rowD)]) (n := 2 + 100 * (4000 + 2)) (k := 2) (m := 2) (fun d hd => ?_) (Nat.le_refl 2)).neat (by decide) (by decide)
    simp only [List.mem_cons, List.not_mem_nil, or_false] at hd
    rcases hd with rfl | rfl
    · exact md hc lc
    · exact md hh lh
  · rw [ofPy_list]
    show D.lst [ofPy _, ofPy _] = _
    rw [(rows_py hc (by decide) (by omega)).2, (rows_py hh (by decide) (by omega)).2]
theorem no2 {a b : Own.Slot} (h1 : noOwn [a] = true) (h2 : noOwn [b] = true) : noOwn [a, b] = true := by
  cases a <;> cases b <;> simp_all [noOwn]
theorem ok_law (T : Tx a K mg w) : FnG P w K mg base CX0 7 a.f_law a.d_law ps_law (spLaw K) := by
  refine okLG T.F_law sc_law rfl (fun cdv A outer s H X hgd hr => ?_)
  · have hu := hu_of hr
    have G_l_digits := ok_l_digits (P := P) (w := w) (base := base) T
    have B_l_digits := bnd_l_digits T
    have hr_l_digits : Room 2 _ := hr.mono (by decide)
    have G_l_rows_by := ok_l_rows_by (P := P) (w := w) (base := base) T
    have B_l_rows_by := bnd_l_rows_by T
    have hr_l_rows_by : Room 4 _ := hr.mono (by decide)
    have G_l_bent := ok_l_bent (P := P) (w := w) (base := base) T
    have B_l_bent := bnd_l_bent T
    have hr_l_bent : Room 4 _ := hr.mono (by decide)
    have G_l_look := ok_l_look (P := P) (w := w) (base := base) T
    have B_l_look := bnd_l_look T
    have hr_l_look : Room 2 _ := hr.mono (by decide)
    have G_l_same := ok_l_same (P := P) (w := w) (base := base) T
    have B_l_same := bnd_l_same T
    have hr_l_same : Room 2 _ := hr.mono (by decide)
    have GX_World_init := okG_World_init (P := P) (w := w) (base := base) T
    have B_World_init := bnd_World_init T
    have hr1_World_init : Room 6 _ := hr.mono (by decide)
    have G_l_kin := ok_l_kin (P := P) (w := w) (base := base) T
    have B_l_kin := bnd_l_kin T
    have hr_l_kin : Room 1 _ := hr.mono (by decide)
    have G_l_field := ok_l_field (P := P) (w := w) (base := base) T
    have B_l_field := bnd_l_field T
    have hr_l_field : Room 1 _ := hr.mono (by decide)
    refine ⟨_, (pss_cons (ps_set (i := 0) sc_law.nd rfl (by first | exact Or.inl rfl | exact Or.inr rfl) (pe_slice sl_list (pv 0) po_none (po_some pe_int)))
      (pss_cons (ps_for PassesOwn.never rfl (pi_range1 rfl T.no_range (pa_cons pe_int pa_nil)) (pg_name (i := 1) sc_law.nd rfl (by first | exact Or.inl rfl | exact Or.inr rfl))
        (pss_cons (ps_asg (pe_call G_l_digits hr_l_digits (by rfl) T.mg_l_digits T.F_l_digits.kp B_l_digits .nil pass0 (pa_cons (pv 0) (pa_cons (pe_op op_mulW pe_int (pv 1)) (pa_cons (pe_lst (pa_cons pe_int (pa_cons pe_int (pa_cons pe_int pa_nil)))) pa_nil)))) (pg_unl rfl (pgs_cons (pg_name (i := 2) sc_law.nd rfl (by first | exact Or.inl rfl | exact Or.inr rfl)) (pgs_cons (pg_name (i := 3) sc_law.nd rfl (by first | exact Or.inl rfl | exact Or.inr rfl)) (pgs_cons (pg_name (i := 4) sc_law.nd rfl (by first | exact Or.inl rfl | exact Or.inr rfl)) pgs_nil))) (by rfl)))
        (pss_cons (ps_par (i := 2) (j := 3) (by rfl) sc_law.nd rfl rfl (by decide) rfl rfl (pa_cons (pe_op op_add pe_int (pv 2)) (pa_cons (pe_op op_add pe_int (pv 3)) pa_nil)) (by rfl))
        (pss_cons (ps_if (pt_cmpR op_eq (pv 4) pe_int (nomark _)) (pss_one (ps_set (i := 2) sc_law.nd rfl (by first | exact Or.inl rfl | exact Or.inr rfl) (pe_op op_add pe_int (pe_op op_mod (pv 3) pe_int)))) pss_nil)
        (pss_cons (ps_if (pt_cmpR op_eq (pv 4) pe_int (nomark _)) (pss_one (ps_set (i := 3) sc_law.nd rfl (by first | exact Or.inl rfl | exact Or.inr rfl) (pe_ix ix_list (pe_lst (pa_cons pe_int (pa_cons pe_int (pa_cons pe_int pa_nil)))) (pe_op op_mod (pv 2) pe_int) (fun _ _ => rfl)))) pss_nil)
        (pss_cons (ps_if (pt_cmpR op_eq (pv 4) pe_int (nomark _)) (pss_one (ps_set (i := 2) sc_law.nd rfl (by first | exact Or.inl rfl | exact Or.inr rfl) pe_int)) pss_nil)
        (pss_cons (ps_set (i := 5) sc_law.nd rfl (by first | exact Or.inl rfl | exact Or.inr rfl) (pe_call G_l_bent hr_l_bent (by rfl) T.mg_l_bent T.F_l_bent.kp B_l_bent .nil pass0 (pa_cons (pv 0) (pa_cons (pe_op op_add (pe_op op_mulW pe_int (pv 1)) pe_int) (pa_cons (pe_call G_l_rows_by hr_l_rows_by (by rfl) T.mg_l_rows_by T.F_l_rows_by.kp B_l_rows_by .nil pass0 (pa_cons (pv 0) (pa_cons (pe_op op_add (pe_op op_mulW pe_int (pv 1)) pe_int) (pa_cons (pv 2) (pa_cons (pe_op op_pow pe_int pe_int) pa_nil))))) (pa_cons (pe_op op_pow pe_int pe_int) pa_nil))))))
        (pss_cons (ps_set (i := 6) sc_law.nd rfl (by first | exact Or.inl rfl | exact Or.inr rfl) (pe_call G_l_bent hr_l_bent (by rfl) T.mg_l_bent T.F_l_bent.kp B_l_bent .nil pass0 (pa_cons (pv 0) (pa_cons (pe_op op_add (pe_op op_mulW pe_int (pv 1)) pe_int) (pa_cons (pe_call G_l_rows_by hr_l_rows_by (by rfl) T.mg_l_rows_by T.F_l_rows_by.kp B_l_rows_by .nil pass0 (pa_cons (pv 0) (pa_cons (pe_op op_add (pe_op op_mulW pe_int (pv 1)) pe_int) (pa_cons (pv 3) (pa_cons (pe_op op_pow pe_int pe_int) pa_nil))))) (pa_cons (pe_op op_pow pe_int pe_int) pa_nil))))))
        (pss_cons (ps_set (i := 7) sc_law.nd rfl (by first | exact Or.inl rfl | exact Or.inr rfl) (pe_call G_l_look hr_l_look (by rfl) T.mg_l_look T.F_l_look.kp B_l_look .nil pass0 (pa_cons (pv 5) (pa_cons pe_int (pa_cons (pe_op op_pow pe_int pe_int) pa_nil)))))
        (pss_cons (ps_if (pt_cmpR op_eq (pe_ix ix_tup (pv 7) pe_int (fun _ _ => rfl)) pe_str (nomark _)) (pss_one (ps_set (i := 7) sc_law.nd rfl (by first | exact Or.inl rfl | exact Or.inr rfl) (pe_call G_l_look hr_l_look (by rfl) T.mg_l_look T.F_l_look.kp B_l_look .nil pass0 (pa_cons (pv 6) (pa_cons pe_int (pa_cons (pe_op op_pow pe_int pe_int) pa_nil)))))) pss_nil)
        (pss_cons (ps_set (i := 8) sc_law.nd rfl (by first | exact Or.inl rfl | exact Or.inr rfl) (pe_lst (pa_cons (pe_callTy call_list_of (by rfl) T.no_list (by decide +kernel) (pa_cons (pv 5) pa_nil)) (pa_cons (pe_callTy call_list_of (by rfl) T.no_list (by decide +kernel) (pa_cons (pv 6) pa_nil)) pa_nil))))
        (pss_cons (ps_set (i := 9) sc_law.nd rfl (by first | exact Or.inl rfl | exact Or.inr rfl) (pe_tup (pa_cons pe_str (pa_cons pe_non pa_nil))))
        (pss_cons (L2N.ps_try_as (i := 10) rfl rfl sc_law.nd rfl rfl ⟨rfl, by decide, .inl T.mg_RoofError⟩ takesN (fun W pn xe tk hpo => (pss_one (ps_expr (pe_makeQ T.mk_World GX_World_init hr1_World_init (by rfl) T.mg_World B_World_init .nil (fun σ => L2N.passAt tk σ) (pa_cons (pe_ix (ixLK (K := K) rfl) (pv 8) pe_int (fun _ _ => rfl)) (pa_cons (pe_ix (ixLK (K := K) rfl) (pv 8) pe_int (fun _ _ => rfl)) pa_nil))))))
          (fun xa oe xc xd pn hz hf => (pss_cons (ps_set (i := 11) sc_law.nd rfl (by first | exact Or.inl rfl | exact Or.inr rfl) (pe_callHs (xa := xa) (oe := oe) (c := xc) (d := xd) G_l_kin (roomS hr_l_kin) (hotS hz hf) List.mem_cons_self hz.zc (by rfl) T.mg_l_kin T.F_l_kin.kp B_l_kin (pa_cons (pv 10) pa_nil)))
          (pss_one (ps_set (i := 9) sc_law.nd rfl (by first | exact Or.inl rfl | exact Or.inr rfl) (pe_tup (pa_cons (pv 11) (pa_cons (pe_callHs (xa := xa) (oe := oe) (c := xc) (d := xd) G_l_field (roomS hr_l_field) (hotS hz hf) List.mem_cons_self hz.zc (by rfl) T.mg_l_field T.F_l_field.kp B_l_field (pa_cons (pv 10) (pa_cons (pv 11) pa_nil))) pa_nil))))))))
        (pss_one (ps_if (PW.pt (pw_or (pt_not (pt_val (pe_callG G_l_same hgd hr_l_same (by rfl) T.mg_l_same T.F_l_same.kp B_l_same pass0 (pa_cons (pv 9) (pa_cons (pv 7) pa_nil))))) (pw_or1 (pt_cmpR (op_neD hr.units) (pv 8) (pe_lst (pa_cons (pv 5) (pa_cons (pv 6) pa_nil))) (nomark _))))) (pss_one (ps_ret pe_bl)) pss_nil)))))))))))))))
      (pss_one (ps_ret pe_bl)))), ?_⟩
    try simp only [cxK, Cx.nox, Cx.wish]
    intro F l ns hs hn hL
    show Blk K F [.imm (.at_ l), .un, .un, .un, .un, .un, .un, .un, .un, .un, .un, .un] _ _
    have nb : ∀ z : false = true, F.L = [] := fun z => by cases z
    obtain ⟨ms, hm, hsl⟩ := sl_ints (K := K) (lo := none) (hi := some 63) hs hn
    refine Blk.set_ (GvE.sl (.var rfl) .no (.of .int) hsl) ?_
    walk_at "nrm"
    refine Blk.seqN (N := fun _ => True) ?_ (fun ρ _ => Blk.ret .bl rfl)
    refine Blk.for_ (GvI.range1 (j := 4) (GvA.cons .int .nil) (by decide) (by decide)) (fun i ρ => ∃ v1 v2 v3 v4 v5 v6 v7 v8 v9 v10 v11, ρ = [.imm (.lst (ms.map .int)), v1, v2, v3, v4, v5, v6, v7, v8, v9, v10, v11] ∧ noOwn [v10] = true ∧ noOwn [v11] = true) ⟨_, _, _, _, _, _, _, _, _, _, _, rfl, rfl, rfl⟩ ?_ (fun _ _ => trivial)
    rintro i d ρ1 hd ⟨v1, v2, v3, v4, v5, v6, v7, v8, v9, v10, v11, rfl, n10, n11⟩
    obtain ⟨hi, rfl⟩ := ups_get hd
    have hi : i < 4 := by simpa using hi
    refine ⟨_, _, .name, ?_⟩
    walk_at "nrm"
    generalize hk : (0 + (i : Int)) = k at *
    have k0 : 0 ≤ k := by omega
    have k4 : k < 4 := by omega
    have m12 : ∀ {ρ : List Own.Slot}, ρ[1]? = some (.imm (.int k)) → GvE K F ρ (tOp (rI CMulW fun i j => V.int (i * j)) (tC (V.int 12)) (tVar 1)) (.int (12 * k)) := fun h => GvE.op .int (.var h) (rl_I (f := fun i j => i * j) (mulW64 (by decide) (by omega)))
    obtain ⟨many, folk, lean, hD, ⟨q0, q1⟩, ⟨f0, f1⟩, l0, l1⟩ := drawn3 (digF_in (ns := ms) (k := 12 * k) (szs := [5, 8, 9]) (by decide))
    refine Blk.setG (d := .lst [.int many, .int folk, .int lean]) (GvE.call (GvA.cons (.var rfl) (GvA.cons (m12 rfl) (GvA.cons (GvE.lst (GvA.cons .int (GvA.cons .int (GvA.cons .int .nil))) (Nat.le_of_ble_eq_true rfl)) .nil))) ⟨ms, _, [5, 8, 9], rfl, hm, by omega, by omega, by decide, by decide, by rw [hD]; rfl⟩ nb) (GvG.unl (GvG.cons .name (GvG.cons .name (GvG.cons .name GvG.nil))) rfl) ?_
    walk_at "nrm"
    refine Blk.setP (d := .int (1 + many)) (e := .int (1 + folk)) (GvA.cons (GvE.op .int (.var rfl) rl_add) (GvA.cons (GvE.op .int (.var rfl) rl_add) .nil)) ?_
    walk_at "nrm"
    have is : ∀ {ρ : List Own.Slot} {c : Int}, ρ[4]? = some (.imm (.int lean)) → GvT K F ρ (tTest (tOp rEq (tVar 4) (tC (V.int c)))) (decide (lean = c)) := fun h => GvT.test (GvE.op (.var h) .int rl_eqI)
    have M : ∃ m1 : Int, 0 ≤ m1 ∧ m1 ≤ 12 ∧ m1 = (if lean = 0 then 6 + (1 + folk) % 2 else 1 + many) := by
      refine ⟨_, ?_, ?_, rfl⟩ <;> split <;> omega
    obtain ⟨m1, m10, m11, em⟩ := M
    refine Blk.seq (ρ1 := [.imm (.lst (ms.map .int)), .imm (.int k), .imm (.int m1), .imm (.int (1 + folk)), .imm (.int lean), v5, v6, v7, v8, v9, v10, v11]) ?_ ?_
    · by_cases c : lean = 0
      · rw [if_pos c] at em
        subst em
        exact Blk.ifT (GvT.cast (is rfl) (decide_eq_true c)) (Blk.asg (GvE.op .int (GvE.op (.var rfl) .int (rl_I (f := fun i j => i % j) (by decide))) rl_add) rfl)
      · rw [if_neg c] at em
        subst em
        exact Blk.ifF (GvT.cast (is rfl) (decide_eq_false c)) (.nx rfl)
    have mm0 := Int.emod_nonneg m1 (show (3 : Int) ≠ 0 by decide)
    have mm1 := Int.emod_lt_of_pos m1 (show (0 : Int) < 3 by decide)
    have Fk : ∃ f2 : Int, 0 ≤ f2 ∧ f2 ≤ 12 ∧ f2 = (if lean = 1 then ([0, 9, 10] : List Int).getD (m1 % 3).toNat 0 else 1 + folk) := by
      have b3 : 0 ≤ ([0, 9, 10] : List Int).getD (m1 % 3).toNat 0 ∧ ([0, 9, 10] : List Int).getD (m1 % 3).toNat 0 ≤ 10 := by
        have : m1 % 3 = 0 ∨ m1 % 3 = 1 ∨ m1 % 3 = 2 := by omega
        rcases this with e | e | e <;> rw [e] <;> decide
      refine ⟨_, ?_, ?_, rfl⟩ <;> split <;> omega
    obtain ⟨f2, f20, f21, ef⟩ := Fk
    refine Blk.seq (ρ1 := [.imm (.lst (ms.map .int)), .imm (.int k), .imm (.int m1), .imm (.int f2), .imm (.int lean), v5, v6, v7, v8, v9, v10, v11]) ?_ ?_
    · by_cases c : lean = 1
      · rw [if_pos c] at ef
        subst ef
        exact Blk.ifT (GvT.cast (is rfl) (decide_eq_true c)) (Blk.asg (GvE.op (d := .lst (([0, 9, 10] : List Int).map .int)) (GvE.lst (GvA.cons .int (GvA.cons .int (GvA.cons .int .nil))) (Nat.le_of_ble_eq_true rfl)) (GvE.op (.var rfl) .int (rl_I (f := fun i j => i % j) (by decide))) (rl_ixL (atI_mapD 0 mm0 mm1))) rfl)
      · rw [if_neg c] at ef
        subst ef
        exact Blk.ifF (GvT.cast (is rfl) (decide_eq_false c)) (.nx rfl)
    have M3 : ∃ m3 : Int, 0 ≤ m3 ∧ m3 ≤ 12 ∧ m3 = (if lean = 2 then 0 else m1) := by
      refine ⟨_, ?_, ?_, rfl⟩ <;> split <;> omega
    obtain ⟨m3, m30, m31, em3⟩ := M3
    refine Blk.seq (ρ1 := [.imm (.lst (ms.map .int)), .imm (.int k), .imm (.int m3), .imm (.int f2), .imm (.int lean), v5, v6, v7, v8, v9, v10, v11]) ?_ ?_
    · by_cases c : lean = 2
      · rw [if_pos c] at em3
        subst em3
        exact Blk.ifT (GvT.cast (is rfl) (decide_eq_true c)) (Blk.asg .int rfl)
      · rw [if_neg c] at em3
        subst em3
        exact Blk.ifF (GvT.cast (is rfl) (decide_eq_false c)) (.nx rfl)
    have pw9 : ∀ {ρ : List Own.Slot}, GvE K F ρ (tOp (rI CPow fun i j => .int (i ^ j.toNat)) (tC (.int 10)) (tC (.int 9))) (.int 1000000000) := GvE.op .int .int (rl_I (f := fun i j => i ^ j.toNat) ⟨by decide, by decide, by decide⟩)
    have pw6 : ∀ {ρ : List Own.Slot}, GvE K F ρ (tOp (rI CPow fun i j => .int (i ^ j.toNat)) (tC (.int 10)) (tC (.int 6))) (.int 1000000) := GvE.op .int .int (rl_I (f := fun i j => i ^ j.toNat) ⟨by decide, by decide, by decide⟩)
    have rc := rowsF_in (ns := ms) (k := 12 * k + 3) (m := m3) (b := 1000000000) m31 (by decide) (by decide)
    have rh := rowsF_in (ns := ms) (k := 12 * k + 8) (m := f2) (b := 1000000) f21 (by decide) (by decide)
    have bc := seqF_in (ns := ms) (k := 12 * k + 1) (b := 1000000000) rc.1 (by decide) (by decide) 2
    have bh := seqF_in (ns := ms) (k := 12 * k + 6) (b := 1000000) rh.1 (by decide) (by decide) 2
    refine Blk.set_ (d := .lst ((bentF ms (12 * k + 1) 1000000000 (rowsF ms (12 * k + 3) m3 1000000000)).map rowT)) (GvE.call (GvA.cons (.var rfl) (GvA.cons (GvE.op (m12 rfl) .int rl_add) (GvA.cons (GvE.call (d := .lst ((rowsF ms (12 * k + 3) m3 1000000000).map rowT)) (GvA.cons (.var rfl) (GvA.cons (GvE.op (m12 rfl) .int rl_add) (GvA.cons (.var rfl) (GvA.cons pw9 .nil)))) ⟨ms, _, m3, 1000000000, rfl, hm, by omega, by omega, m30, m31, by decide, by decide, rfl⟩ nb) (GvA.cons pw9 .nil)))) ⟨ms, _, 1000000000, _, rfl, hm, by omega, by omega, by decide, by decide, rc.1, by rw [rc.2]; omega, rfl⟩ nb) ?_
    walk_at "nrm"
    refine Blk.set_ (d := .lst ((bentF ms (12 * k + 6) 1000000 (rowsF ms (12 * k + 8) f2 1000000)).map rowT)) (GvE.call (GvA.cons (.var rfl) (GvA.cons (GvE.op (m12 rfl) .int rl_add) (GvA.cons (GvE.call (d := .lst ((rowsF ms (12 * k + 8) f2 1000000).map rowT)) (GvA.cons (.var rfl) (GvA.cons (GvE.op (m12 rfl) .int rl_add) (GvA.cons (.var rfl) (GvA.cons pw6 .nil)))) ⟨ms, _, f2, 1000000, rfl, hm, by omega, by omega, f20, f21, by decide, by decide, rfl⟩ nb) (GvA.cons pw6 .nil)))) ⟨ms, _, 1000000, _, rfl, hm, by omega, by omega, by decide, by decide, rh.1, by rw [rh.2]; omega, rfl⟩ nb) ?_
    walk_at "nrm"
    have lc : (bentF ms (12 * k + 1) 1000000000 (rowsF ms (12 * k + 3) m3 1000000000)).length ≤ 12 := by
      have e : (bentF ms (12 * k + 1) 1000000000 (rowsF ms (12 * k + 3) m3 1000000000)).length = _ := bc.2
      rw [e, rc.2]
      omega
    have lh : (bentF ms (12 * k + 6) 1000000 (rowsF ms (12 * k + 8) f2 1000000)).length ≤ 12 := by
      have e : (bentF ms (12 * k + 6) 1000000 (rowsF ms (12 * k + 8) f2 1000000)).length = _ := bh.2
      rw [e, rh.2]
      omega
    have Rc : RwN 8 (bentF ms (12 * k + 1) 1000000000 (rowsF ms (12 * k + 3) m3 1000000000)) := bc.1
    have Rh : RwN 8 (bentF ms (12 * k + 6) 1000000 (rowsF ms (12 * k + 8) f2 1000000)) := bh.1
    clear bc bh rc rh
    generalize bentF ms (12 * k + 1) 1000000000 (rowsF ms (12 * k + 3) m3 1000000000) = cs at *
    generalize bentF ms (12 * k + 6) 1000000 (rowsF ms (12 * k + 8) f2 1000000) = hs2 at *
    have wc : Rows cs := fun r hr => (Rc r hr).1.mono (by decide)
    have wh : Rows hs2 := fun r hr => (Rh r hr).1.mono (by decide)
    refine Blk.set_ (d := lookD (lookF cs 5 1000000000)) (GvE.call (GvA.cons (.var rfl) (GvA.cons .int (GvA.cons pw9 .nil))) ⟨cs, 5, 1000000000, rfl, wc, by omega, rfl⟩ nb) ?_
    walk_at "nrm"
    have fw : ∀ q, lookW cs hs2 = some q → q.1 ∈ words4 ∧ ∃ g, Mild g 2000 0 ∧ ofPy g = q.2 := fun q hq => by
      unfold lookW at hq
      split at hq
      · rename_i q1 h1
        cases hq
        exact lookF_facts (by decide) Rc (by omega) h1
      · exact lookF_facts (by decide) Rh (by omega) hq
    refine Blk.seq (ρ1 := [.imm (.lst (ms.map .int)), .imm (.int k), .imm (.int m3), .imm (.int f2), .imm (.int lean), .imm (.lst (cs.map rowT)), .imm (.lst (hs2.map rowT)), .imm (lookD (lookW cs hs2)), v8, v9, v10, v11]) ?_ ?_
    · unfold lookW
      cases h1 : lookF cs 5 1000000000 with
      | none =>
        refine Blk.ifT (GvT.cast (GvT.test (GvE.op (GvE.op (d := .tup [.str "", .non]) (.var rfl) .int (rl_ixT atI_0)) .str rl_eqS)) (by decide +kernel)) ?_
        exact Blk.asg (d := lookD (lookF hs2 8 1000000)) (GvE.call (GvA.cons (.var rfl) (GvA.cons .int (GvA.cons pw6 .nil))) ⟨hs2, 8, 1000000, rfl, wh, by omega, rfl⟩ nb) rfl
      | some q =>
        have hw := (lookF_facts (by decide) Rc (by omega) h1).1
        exact Blk.ifF (GvT.cast (GvT.test (GvE.op (GvE.op (d := .tup [.str q.1, q.2]) (.var rfl) .int (rl_ixT atI_0)) .str rl_eqS)) (decide_eq_false (w4_ne _ hw))) (.nx rfl)
    refine Blk.set_ (d := .lst [.lst (cs.map rowT), .lst (hs2.map rowT)]) (GvE.lst (GvA.cons (GvE.cb (GvA.cons (.var rfl) .nil) (rc_list (.inl rfl))) (GvA.cons (GvE.cb (GvA.cons (.var rfl) .nil) (rc_list (.inl rfl))) .nil)) (Nat.le_of_ble_eq_true rfl)) ?_
    walk_at "nrm"
    refine Blk.set_ (d := .tup [.str "", .non]) (GvE.tup (GvA.cons .str (GvA.cons .non .nil)) (Nat.le_of_ble_eq_true rfl)) ?_
    walk_at "nrm"
    obtain ⟨py, hN, hE⟩ := look_py fw
    obtain ⟨hN2, hE2⟩ := hand_py Rc Rh (by omega) (by omega)
    have same : ∀ {ρ : List Own.Slot}, ρ[9]? = some (.imm (lookD (lookW cs hs2))) → ρ[7]? = some (.imm (lookD (lookW cs hs2))) → GvE K F ρ (tCall (spD K false R_same) [] E0 (tCons (tVar 9) (tCons (tVar 7) tNil))) (.bl true) := fun h1 h2 => GvE.call (GvA.cons (GvE.cast (.var h1) hE.symm) (GvA.cons (GvE.cast (.var h2) hE.symm) .nil)) ⟨py, hN, rfl, rfl⟩ nb
    have hand : ∀ {ρ : List Own.Slot}, ρ[8]? = some (.imm (.lst [.lst (cs.map rowT), .lst (hs2.map rowT)])) → ρ[5]? = some (.imm (.lst (cs.map rowT))) → ρ[6]? = some (.imm (.lst (hs2.map rowT))) → GvE K F ρ (tOp (rNeD K) (tVar 8) (tLst (tCons (tVar 5) (tCons (tVar 6) tNil)))) (.bl false) := fun h1 h2 h3 => GvE.cast (GvE.op (GvE.cast (.var h1) hE2.symm) (GvE.cast (GvE.lst (GvA.cons (.var h2) (GvA.cons (.var h3) .nil)) (Nat.le_of_ble_eq_true rfl)) hE2.symm) (rl_nePy hN2 hN2)) (by rw [hN2.refl]; rfl)
    refine Blk.seqN (N := fun ρ => ∃ v10 v11, ρ = [.imm (.lst (ms.map .int)), .imm (.int k), .imm (.int m3), .imm (.int f2), .imm (.int lean), .imm (.lst (cs.map rowT)), .imm (.lst (hs2.map rowT)), .imm (lookD (lookW cs hs2)), .imm (.lst [.lst (cs.map rowT), .lst (hs2.map rowT)]), .imm (lookD (lookW cs hs2)), v10, v11] ∧ noOwn [v10] = true ∧ noOwn [v11] = true) ?_ ?_
    · cases hW : lookW cs hs2 with
      | none =>
        have h1 : lookF cs 5 1000000000 = none ∧ lookF hs2 8 1000000 = none := by
          unfold lookW at hW
          split at hW
          · cases hW
          · exact ⟨by assumption, hW⟩
        obtain ⟨c1, c2, c3⟩ := lookF_ok h1.1
        obtain ⟨d1, d2, d3⟩ := lookF_ok h1.2
        refine Blk.tryExprN (te := fun X => tMake a.C_World (orS (spI K false a.C_World R_world_init) (spIX K false a.C_World (R_wX a))) [] X (tCons (tOp (rIxL K) (tVar 8) (tC (V.int 0))) (tCons (tOp (rIxL K) (tVar 8) (tC (V.int 1))) tNil))) (d := worldD a.C_World cs hs2) (fun X => GvE.makeO (es := []) (GvA.cons (GvE.op (.var rfl) .int (rl_ixL atI_0)) (GvA.cons (GvE.op (.var rfl) .int (rl_ixL atI_1)) .nil)) (fun _ => .nil) ⟨cs, hs2, rfl, c1, d1, c2, by omega, d2, by omega, rfl⟩ nb) ⟨_, _, rfl, n10, n11⟩
      | some q =>
        obtain ⟨hw4, _⟩ := fw q hW
        obtain ⟨hKF, hexm⟩ := kdW T hw4
        refine Blk.tryExprX (fs := some [(fldW q.1, q.2)]) (C := clsW a q.1) (GvZ.make (es := []) (GvA.cons (GvE.op (.var rfl) .int (rl_ixL atI_0)) (GvA.cons (GvE.op (.var rfl) .int (rl_ixL atI_1)) .nil)) (fun _ => .nil) ⟨cs, hs2, q, rfl, wc, wh, by omega, by omega, hW, rfl, rfl⟩ nb) (no2 n10 n11) hexm fun F' xa dd hL' xx => ?_
        refine Blk.set_ (d := .str q.1) (GvE.callHx (GvA.cons (.var rfl) .nil) xx ⟨clsW a q.1, q.1, fldW q.1, q.2, rfl, rfl, rfl, hKF, hw4, rfl⟩) ?_
        walk_at "nrm"
        refine Blk.asg (d := .tup [.str q.1, q.2]) (GvE.tup (GvA.cons (.var rfl) (GvA.cons (GvE.callHx (GvA.cons (.var rfl) (GvA.cons (.var rfl) .nil)) xx ⟨clsW a q.1, q.1, q.2, rfl, rfl, rfl, hKF, hw4, rfl⟩) .nil)) (Nat.le_of_ble_eq_true rfl)) ⟨.un, .imm (.str q.1), rfl, rfl, rfl⟩
    · rintro _ ⟨w10, w11, rfl, n10, n11⟩
      exact Blk.ifF (GvT.cast (GvT.or (b := false) (c := false) (GvT.not (b := true) (GvT.val (same rfl rfl))) fun _ => GvT.test (hand rfl rfl rfl)) rfl) (.nx ⟨_, _, _, _, _, _, _, _, _, _, _, rfl, n10, n11⟩)

end
end My

set_option Elab.async false
set_option maxRecDepth 100000
set_option maxHeartbeats 4000000
set_option linter.all false
namespace My
open PySem L2 Own
section
variable {P : Program} [PO P] {w : World} {K : PySem.W.Frag} {mg : Str → Option Value} {base : Heap} {a : Adr}
end
instance : Own.PO (PySem.W.OpenLaw.prog PySem.Challenge.rw_oneroof_k06_worlds_refused) := ⟨by decide +kernel, by decide +kernel⟩
theorem all_mk {P : Program} [Own.PO P] {w : World} {K : PySem.W.Frag} {h : Heap} {mg : Str → Option Value} {fa C_World C_BadName C_BadDay C_Taken C_BadNumber C_BadCount C_BadDeed C_Clash C_Full C_Short C_Ring C_NoRow C_BadText C_BadForm C_NoHouse C_NoCoin C_NoTelling C_NotRuled C_NoMeasure C_Nothing C_RoofError C_Missing f_World_init f_need_number f_need_name f_numbers_by_name f_l_cell f_l_digits f_l_names f_l_name_ok f_l_field f_l_kin f_l_same f_l_rows_by f_l_bent f_l_look f_law B_BOUNDS BT_BOUNDS_rate BT_BOUNDS_shares BT_BOUNDS_change BT_BOUNDS_amount BT_BOUNDS_count BT_BOUNDS_price BT_BOUNDS_times BT_BOUNDS_per f_BadName_init ca_BadName_init cc_BadName_init f_Taken_init ca_Taken_init cc_Taken_init f_BadNumber_init ca_BadNumber_init cc_BadNumber_init f_BadCount_init ca_BadCount_init cc_BadCount_init : Addr} (X : K.In h) (G : h.Ns mainGlobals mg) (hfa : mg "law" = some (.ref fa))
    {od_World_init an_World_init od_need_number an_need_number od_need_name an_need_name od_numbers_by_name an_numbers_by_name od_l_cell an_l_cell od_l_digits an_l_digits od_l_names an_l_names od_l_name_ok an_l_name_ok od_l_field an_l_field od_l_kin an_l_kin od_l_same an_l_same od_l_rows_by an_l_rows_by od_l_bent an_l_bent od_l_look an_l_look od_law an_law : Option Addr}
    {sl_World_init sl_need_number sl_need_name sl_numbers_by_name sl_l_cell sl_l_digits sl_l_names sl_l_name_ok sl_l_field sl_l_kin sl_l_same sl_l_rows_by sl_l_bent sl_l_look sl_law : Array (Option Value)}
    {oc_World_init kV_World_init dc_World_init pm_World_init cd_World_init ct_World_init oc_need_number kV_need_number dc_need_number pm_need_number cd_need_number ct_need_number oc_need_name kV_need_name dc_need_name pm_need_name cd_need_name ct_need_name oc_numbers_by_name kV_numbers_by_name dc_numbers_by_name pm_numbers_by_name cd_numbers_by_name ct_numbers_by_name oc_l_cell kV_l_cell dc_l_cell pm_l_cell cd_l_cell ct_l_cell oc_l_digits kV_l_digits dc_l_digits pm_l_digits cd_l_digits ct_l_digits oc_l_names kV_l_names dc_l_names pm_l_names cd_l_names ct_l_names oc_l_name_ok kV_l_name_ok dc_l_name_ok pm_l_name_ok cd_l_name_ok ct_l_name_ok oc_l_field kV_l_field dc_l_field pm_l_field cd_l_field ct_l_field oc_l_kin kV_l_kin dc_l_kin pm_l_kin cd_l_kin ct_l_kin oc_l_same kV_l_same dc_l_same pm_l_same cd_l_same ct_l_same oc_l_rows_by kV_l_rows_by dc_l_rows_by pm_l_rows_by cd_l_rows_by ct_l_rows_by oc_l_bent kV_l_bent dc_l_bent pm_l_bent cd_l_bent ct_l_bent oc_l_look kV_l_look dc_l_look pm_l_look cd_l_look ct_l_look oc_law kV_law dc_law pm_law cd_law ct_law : Value}
    {oc_BadName_init kV_BadName_init dc_BadName_init pm_BadName_init ct_BadName_init ccl_BadName_init ccc_BadName_init : Value} {od_BadName_init an_BadName_init cdd_BadName_init ccd_BadName_init : Option Addr} {sl_BadName_init ccs_BadName_init ccx_BadName_init : Array (Option Value)} {cvs_BadName_init : Array Value} {ctf_BadName_init : Tok}
    {oc_Taken_init kV_Taken_init dc_Taken_init pm_Taken_init ct_Taken_init ccl_Taken_init ccc_Taken_init : Value} {od_Taken_init an_Taken_init cdd_Taken_init ccd_Taken_init : Option Addr} {sl_Taken_init ccs_Taken_init ccx_Taken_init : Array (Option Value)} {cvs_Taken_init : Array Value} {ctf_Taken_init : Tok}
    {oc_BadNumber_init kV_BadNumber_init dc_BadNumber_init pm_BadNumber_init ct_BadNumber_init ccl_BadNumber_init ccc_BadNumber_init : Value} {od_BadNumber_init an_BadNumber_init cdd_BadNumber_init ccd_BadNumber_init : Option Addr} {sl_BadNumber_init ccs_BadNumber_init ccx_BadNumber_init : Array (Option Value)} {cvs_BadNumber_init : Array Value} {ctf_BadNumber_init : Tok}
    {oc_BadCount_init kV_BadCount_init dc_BadCount_init pm_BadCount_init ct_BadCount_init ccl_BadCount_init ccc_BadCount_init : Value} {od_BadCount_init an_BadCount_init cdd_BadCount_init ccd_BadCount_init : Option Addr} {sl_BadCount_init ccs_BadCount_init ccx_BadCount_init : Array (Option Value)} {cvs_BadCount_init : Array Value} {ctf_BadCount_init : Tok}
    {tk_MOST_COINS : Tok}
    {tk_MOST_HOUSES : Tok}
    {tk_MOST_LETTERS : Tok}
    {tk_LETTERS : Tok}
    {bes_BOUNDS : Array DictEntry} {bn_BOUNDS : Nat}
    {btd_BOUNDS_rate : Option Addr} {bti_BOUNDS_rate : Array Value} {btn_BOUNDS_rate : Nat} {bts_BOUNDS_rate : Array (Option Value)}
    {btd_BOUNDS_shares : Option Addr} {bti_BOUNDS_shares : Array Value} {btn_BOUNDS_shares : Nat} {bts_BOUNDS_shares : Array (Option Value)}
    {btd_BOUNDS_change : Option Addr} {bti_BOUNDS_change : Array Value} {btn_BOUNDS_change : Nat} {bts_BOUNDS_change : Array (Option Value)}
    {btd_BOUNDS_amount : Option Addr} {bti_BOUNDS_amount : Array Value} {btn_BOUNDS_amount : Nat} {bts_BOUNDS_amount : Array (Option Value)}
    {btd_BOUNDS_count : Option Addr} {bti_BOUNDS_count : Array Value} {btn_BOUNDS_count : Nat} {bts_BOUNDS_count : Array (Option Value)}
    {btd_BOUNDS_price : Option Addr} {bti_BOUNDS_price : Array Value} {btn_BOUNDS_price : Nat} {bts_BOUNDS_price : Array (Option Value)}
    {btd_BOUNDS_times : Option Addr} {bti_BOUNDS_times : Array Value} {btn_BOUNDS_times : Nat} {bts_BOUNDS_times : Array (Option Value)}
    {btd_BOUNDS_per : Option Addr} {bti_BOUNDS_per : Array Value} {btn_BOUNDS_per : Nat} {bts_BOUNDS_per : Array (Option Value)}
    (g_need_number : PySem.W.nsIn K mainGlobals "_need_number" = some (some (.ref f_need_number)))
    (g_need_name : PySem.W.nsIn K mainGlobals "_need_name" = some (some (.ref f_need_name)))
    (g_numbers_by_name : PySem.W.nsIn K mainGlobals "_numbers_by_name" = some (some (.ref f_numbers_by_name)))
    (g_l_cell : PySem.W.nsIn K mainGlobals "_law_cell" = some (some (.ref f_l_cell)))
    (g_l_digits : PySem.W.nsIn K mainGlobals "_law_digits" = some (some (.ref f_l_digits)))
    (g_l_names : PySem.W.nsIn K mainGlobals "_law_names" = some (some (.ref f_l_names)))
    (g_l_name_ok : PySem.W.nsIn K mainGlobals "_law_name_ok" = some (some (.ref f_l_name_ok)))
    (g_l_field : PySem.W.nsIn K mainGlobals "_law_field" = some (some (.ref f_l_field)))
    (g_l_kin : PySem.W.nsIn K mainGlobals "_law_kin" = some (some (.ref f_l_kin)))
    (g_l_same : PySem.W.nsIn K mainGlobals "_law_same" = some (some (.ref f_l_same)))
    (g_l_rows_by : PySem.W.nsIn K mainGlobals "_law_rows_by" = some (some (.ref f_l_rows_by)))
    (g_l_bent : PySem.W.nsIn K mainGlobals "_law_bent" = some (some (.ref f_l_bent)))
    (g_l_look : PySem.W.nsIn K mainGlobals "_law_look" = some (some (.ref f_l_look)))
    (g_law : PySem.W.nsIn K mainGlobals "law" = some (some (.ref f_law)))
    (g_World : PySem.W.nsIn K mainGlobals "World" = some (some (.ref C_World)))
    (in_World : PySem.W.findIn K (.ref C_World) "__init__" = some (some (.ref f_World_init)))
    (g_BadName : PySem.W.nsIn K mainGlobals "BadName" = some (some (.ref C_BadName)))
    (in_BadName : PySem.W.findIn K (.ref C_BadName) "__init__" = some (some (.ref f_BadName_init)))
    (g_BadDay : PySem.W.nsIn K mainGlobals "BadDay" = some (some (.ref C_BadDay)))
    (g_Taken : PySem.W.nsIn K mainGlobals "Taken" = some (some (.ref C_Taken)))
    (in_Taken : PySem.W.findIn K (.ref C_Taken) "__init__" = some (some (.ref f_Taken_init)))
    (g_BadNumber : PySem.W.nsIn K mainGlobals "BadNumber" = some (some (.ref C_BadNumber)))
    (in_BadNumber : PySem.W.findIn K (.ref C_BadNumber) "__init__" = some (some (.ref f_BadNumber_init)))
    (g_BadCount : PySem.W.nsIn K mainGlobals "BadCount" = some (some (.ref C_BadCount)))
    (in_BadCount : PySem.W.findIn K (.ref C_BadCount) "__init__" = some (some (.ref f_BadCount_init)))
    (g_BadDeed : PySem.W.nsIn K mainGlobals "BadDeed" = some (some (.ref C_BadDeed)))
    (g_Clash : PySem.W.nsIn K mainGlobals "Clash" = some (some (.ref C_Clash)))
    (g_Full : PySem.W.nsIn K mainGlobals "Full" = some (some (.ref C_Full)))
    (g_Short : PySem.W.nsIn K mainGlobals "Short" = some (some (.ref C_Short)))
    (g_Ring : PySem.W.nsIn K mainGlobals "Ring" = some (some (.ref C_Ring)))
    (g_NoRow : PySem.W.nsIn K mainGlobals "NoRow" = some (some (.ref C_NoRow)))
    (g_BadText : PySem.W.nsIn K mainGlobals "BadText" = some (some (.ref C_BadText)))
    (g_BadForm : PySem.W.nsIn K mainGlobals "BadForm" = some (some (.ref C_BadForm)))
    (g_NoHouse : PySem.W.nsIn K mainGlobals "NoHouse" = some (some (.ref C_NoHouse)))
    (g_NoCoin : PySem.W.nsIn K mainGlobals "NoCoin" = some (some (.ref C_NoCoin)))
    (g_NoTelling : PySem.W.nsIn K mainGlobals "NoTelling" = some (some (.ref C_NoTelling)))
    (g_NotRuled : PySem.W.nsIn K mainGlobals "NotRuled" = some (some (.ref C_NotRuled)))
    (g_NoMeasure : PySem.W.nsIn K mainGlobals "NoMeasure" = some (some (.ref C_NoMeasure)))
    (g_Nothing : PySem.W.nsIn K mainGlobals "Nothing" = some (some (.ref C_Nothing)))
    (g_RoofError : PySem.W.nsIn K mainGlobals "RoofError" = some (some (.ref C_RoofError)))
    (g_Missing : PySem.W.nsIn K mainGlobals "Missing" = some (some (.ref C_Missing)))
    (g_BOUNDS : PySem.W.nsIn K mainGlobals "BOUNDS" = some (some (.ref B_BOUNDS)))
    (l_World_init : K.lookup f_World_init = some ⟨oc_World_init, od_World_init, .func (PySem.W.fnOf "__init__" "World.__init__" (defArgs s_World_init) (defBody s_World_init) (defScope s_World_init) .none kV_World_init dc_World_init pm_World_init an_World_init cd_World_init ct_World_init), sl_World_init⟩)
    (c_World_init : PySem.W.codeIn K cd_World_init "World.__init__" = true)
    (k_World_init : PySem.W.keepIn K (.ref f_World_init) = true)
    (l_need_number : K.lookup f_need_number = some ⟨oc_need_number, od_need_number, .func (PySem.W.fnOf "_need_number" "_need_number" (defArgs s_need_number) (defBody s_need_number) (defScope s_need_number) .none kV_need_number dc_need_number pm_need_number an_need_number cd_need_number ct_need_number), sl_need_number⟩)
    (c_need_number : PySem.W.codeIn K cd_need_number "_need_number" = true)
    (k_need_number : PySem.W.keepIn K (.ref f_need_number) = true)
    (l_need_name : K.lookup f_need_name = some ⟨oc_need_name, od_need_name, .func (PySem.W.fnOf "_need_name" "_need_name" (defArgs s_need_name) (defBody s_need_name) (defScope s_need_name) .none kV_need_name dc_need_name pm_need_name an_need_name cd_need_name ct_need_name), sl_need_name⟩)
    (c_need_name : PySem.W.codeIn K cd_need_name "_need_name" = true)
    (k_need_name : PySem.W.keepIn K (.ref f_need_name) = true)
    (l_numbers_by_name : K.lookup f_numbers_by_name = some ⟨oc_numbers_by_name, od_numbers_by_name, .func (PySem.W.fnOf "_numbers_by_name" "_numbers_by_name" (defArgs s_numbers_by_name) (defBody s_numbers_by_name) (defScope s_numbers_by_name) .none kV_numbers_by_name dc_numbers_by_name pm_numbers_by_name an_numbers_by_name cd_numbers_by_name ct_numbers_by_name), sl_numbers_by_name⟩)
    (c_numbers_by_name : PySem.W.codeIn K cd_numbers_by_name "_numbers_by_name" = true)
    (k_numbers_by_name : PySem.W.keepIn K (.ref f_numbers_by_name) = true)
    (l_l_cell : K.lookup f_l_cell = some ⟨oc_l_cell, od_l_cell, .func (PySem.W.fnOf "_law_cell" "_law_cell" (defArgs s_l_cell) (defBody s_l_cell) (defScope s_l_cell) .none kV_l_cell dc_l_cell pm_l_cell an_l_cell cd_l_cell ct_l_cell), sl_l_cell⟩)
    (c_l_cell : PySem.W.codeIn K cd_l_cell "_law_cell" = true)
    (k_l_cell : PySem.W.keepIn K (.ref f_l_cell) = true)
    (l_l_digits : K.lookup f_l_digits = some ⟨oc_l_digits, od_l_digits, .func (PySem.W.fnOf "_law_digits" "_law_digits" (defArgs s_l_digits) (defBody s_l_digits) (defScope s_l_digits) .none kV_l_digits dc_l_digits pm_l_digits an_l_digits cd_l_digits ct_l_digits), sl_l_digits⟩)
    (c_l_digits : PySem.W.codeIn K cd_l_digits "_law_digits" = true)
    (k_l_digits : PySem.W.keepIn K (.ref f_l_digits) = true)
    (l_l_names : K.lookup f_l_names = some ⟨oc_l_names, od_l_names, .func (PySem.W.fnOf "_law_names" "_law_names" (defArgs s_l_names) (defBody s_l_names) (defScope s_l_names) .none kV_l_names dc_l_names pm_l_names an_l_names cd_l_names ct_l_names), sl_l_names⟩)
    (c_l_names : PySem.W.codeIn K cd_l_names "_law_names" = true)
    (k_l_names : PySem.W.keepIn K (.ref f_l_names) = true)
    (l_l_name_ok : K.lookup f_l_name_ok = some ⟨oc_l_name_ok, od_l_name_ok, .func (PySem.W.fnOf "_law_name_ok" "_law_name_ok" (defArgs s_l_name_ok) (defBody s_l_name_ok) (defScope s_l_name_ok) .none kV_l_name_ok dc_l_name_ok pm_l_name_ok an_l_name_ok cd_l_name_ok ct_l_name_ok), sl_l_name_ok⟩)
    (c_l_name_ok : PySem.W.codeIn K cd_l_name_ok "_law_name_ok" = true)
    (k_l_name_ok : PySem.W.keepIn K (.ref f_l_name_ok) = true)
    (l_l_field : K.lookup f_l_field = some ⟨oc_l_field, od_l_field, .func (PySem.W.fnOf "_law_field" "_law_field" (defArgs s_l_field) (defBody s_l_field) (defScope s_l_field) .none kV_l_field dc_l_field pm_l_field an_l_field cd_l_field ct_l_field), sl_l_field⟩)
    (c_l_field : PySem.W.codeIn K cd_l_field "_law_field" = true)
    (k_l_field : PySem.W.keepIn K (.ref f_l_field) = true)
    (l_l_kin : K.lookup f_l_kin = some ⟨oc_l_kin, od_l_kin, .func (PySem.W.fnOf "_law_kin" "_law_kin" (defArgs s_l_kin) (defBody s_l_kin) (defScope s_l_kin) .none kV_l_kin dc_l_kin pm_l_kin an_l_kin cd_l_kin ct_l_kin), sl_l_kin⟩)
    (c_l_kin : PySem.W.codeIn K cd_l_kin "_law_kin" = true)
    (k_l_kin : PySem.W.keepIn K (.ref f_l_kin) = true)
    (l_l_same : K.lookup f_l_same = some ⟨oc_l_same, od_l_same, .func (PySem.W.fnOf "_law_same" "_law_same" (defArgs s_l_same) (defBody s_l_same) (defScope s_l_same) .none kV_l_same dc_l_same pm_l_same an_l_same cd_l_same ct_l_same), sl_l_same⟩)
    (c_l_same : PySem.W.codeIn K cd_l_same "_law_same" = true)
    (k_l_same : PySem.W.keepIn K (.ref f_l_same) = true)
    (l_l_rows_by : K.lookup f_l_rows_by = some ⟨oc_l_rows_by, od_l_rows_by, .func (PySem.W.fnOf "_law_rows_by" "_law_rows_by" (defArgs s_l_rows_by) (defBody s_l_rows_by) (defScope s_l_rows_by) .none kV_l_rows_by dc_l_rows_by pm_l_rows_by an_l_rows_by cd_l_rows_by ct_l_rows_by), sl_l_rows_by⟩)
    (c_l_rows_by : PySem.W.codeIn K cd_l_rows_by "_law_rows_by" = true)
    (k_l_rows_by : PySem.W.keepIn K (.ref f_l_rows_by) = true)
    (l_l_bent : K.lookup f_l_bent = some ⟨oc_l_bent, od_l_bent, .func (PySem.W.fnOf "_law_bent" "_law_bent" (defArgs s_l_bent) (defBody s_l_bent) (defScope s_l_bent) .none kV_l_bent dc_l_bent pm_l_bent an_l_bent cd_l_bent ct_l_bent), sl_l_bent⟩)
    (c_l_bent : PySem.W.codeIn K cd_l_bent "_law_bent" = true)
    (k_l_bent : PySem.W.keepIn K (.ref f_l_bent) = true)
    (l_l_look : K.lookup f_l_look = some ⟨oc_l_look, od_l_look, .func (PySem.W.fnOf "_law_look" "_law_look" (defArgs s_l_look) (defBody s_l_look) (defScope s_l_look) .none kV_l_look dc_l_look pm_l_look an_l_look cd_l_look ct_l_look), sl_l_look⟩)
    (c_l_look : PySem.W.codeIn K cd_l_look "_law_look" = true)
    (k_l_look : PySem.W.keepIn K (.ref f_l_look) = true)
    (l_law : K.lookup f_law = some ⟨oc_law, od_law, .func (PySem.W.fnOf "law" "law" (defArgs s_law) (defBody s_law) (defScope s_law) .none kV_law dc_law pm_law an_law cd_law ct_law), sl_law⟩)
    (c_law : PySem.W.codeIn K cd_law "law" = true)
    (k_law : PySem.W.keepIn K (.ref f_law) = true)
    (h_kp_World : PySem.W.keepIn K (.ref C_World) = true)
    (pg_World : PySem.W.plainGet K C_World Str.empty = true)
    (hd_World : PySem.W.hasDictIn K C_World = true)
    (po_World : PySem.W.plainOver K C_World = true)
    (sa_World : PySem.W.findIn K (.ref C_World) "__setattr__" = some (some (.builtin "object.__setattr__")))
    (mk_World : PySem.W.makesIn K C_World = true)
    (if_World : PySem.W.isFn K (.ref f_World_init) = true)
    (h_na_World__rates : PySem.W.findIn K (.ref C_World) "_rates" = some none)
    (h_na_World__shares : PySem.W.findIn K (.ref C_World) "_shares" = some none)
    (h_kp_BadName : PySem.W.keepIn K (.ref C_BadName) = true)
    (h_xb_BadName : PySem.W.subIn K (.ref C_BadName) (.type "BaseException") = some true)
    (h_xt_BadName : PySem.W.typeIn K (.ref C_BadName) = some (.type "type"))
    (xh_BadName : PySem.W.hasDictIn K C_BadName = true)
    (xg_BadName : PySem.W.findIn K (.ref C_BadName) "__getattribute__" = some (some (.builtin "BaseException.__getattribute__")))
    (xk_BadName : PySem.W.findIn K (.ref C_BadName) "__getattr__" = some none)
    (xa_BadName : PySem.W.findIn K (.ref C_BadName) "__class__" = some (some (.builtin "object.__class__")))
    (xm_BadName : PySem.W.mroIn K C_BadName (.type "object") = some true)
    (xn__ : PySem.W.specialIn K (.builtin "object.__class__") "__get__" = some (some (.builtin "getset_descriptor.__get__")))
    (xz__ : PySem.W.takesIn K (.builtin "object.__class__") = some true)
    (l_BadName_init : K.lookup f_BadName_init = some ⟨oc_BadName_init, od_BadName_init, .func (PySem.W.ksFn "__init__" "BadName.__init__" (defArgs s_BadName_init) (defBody s_BadName_init) (defScope s_BadName_init) .none kV_BadName_init dc_BadName_init pm_BadName_init an_BadName_init (.ref ca_BadName_init) ct_BadName_init cc_BadName_init), sl_BadName_init⟩)
    (c_BadName_init : PySem.W.codeIn K (.ref ca_BadName_init) "BadName.__init__" = true)
    (lc_BadName_init : K.lookup ca_BadName_init = some ⟨ccl_BadName_init, cdd_BadName_init, .fields cvs_BadName_init, ccs_BadName_init⟩)
    (lv_BadName_init : cvs_BadName_init[2]? = some (.str "/claim/cut.py" ctf_BadName_init))
    (ll_BadName_init : K.lookup cc_BadName_init = some ⟨ccc_BadName_init, ccd_BadName_init, .cell (some (.ref C_BadName)), ccx_BadName_init⟩)
    (sx_BadName_init : PySem.W.ks_superIn K C_BadName C_BadName "__init__" = some (some (.builtin "ValueError.__init__")))
    (so__ : PySem.W.nsIn K cStatics "thirdparty.any" = some none)
    (sg__ : PySem.W.nsIn K mainGlobals "super" = some none)
    (h_nf_BadName_name : PySem.W.findIn K (.ref C_BadName) "name" = some none)
    (h_nf_BadName_day : PySem.W.findIn K (.ref C_BadName) "day" = some none)
    (h_nf_BadName_count : PySem.W.findIn K (.ref C_BadName) "count" = some none)
    (h_nf_BadName_number : PySem.W.findIn K (.ref C_BadName) "number" = some none)
    (h_nf_BadName_line : PySem.W.findIn K (.ref C_BadName) "line" = some none)
    (sm_BadName_init : PySem.W.mroIn K C_BadName (.ref C_BadName) = some true)
    (sf_BadName_init : PySem.W.typeIn K (.ref f_BadName_init) = some (.type "function"))
    (si_BadName_init : PySem.W.excInitIn K C_BadName [.type "ValueError", .type "Exception", .type "BaseException", .type "object"] "ValueError.__new__" = true)
    (sv_BadName_init : PySem.W.excOver K C_BadName [.type "ValueError", .type "Exception", .type "BaseException", .type "object"] = true)
    (ss_BadName_init : PySem.W.findIn K (.ref C_BadName) "__setattr__" = some (some (.builtin "object.__setattr__")))
    (sb_BadName_init : PySem.W.subIn K (.ref C_BadName) (.type "ValueError") = some true)
    (kb_BadName_ValueError : PySem.W.subIn K (.ref C_BadName) (.type "ValueError") = some true)
    (kb_BadName_LookupError : PySem.W.subIn K (.ref C_BadName) (.type "LookupError") = some false)
    (kb_BadName_ZeroDivisionError : PySem.W.subIn K (.ref C_BadName) (.type "ZeroDivisionError") = some false)
    (kb_BadName_IndexError : PySem.W.subIn K (.ref C_BadName) (.type "IndexError") = some false)
    (h_xe_BadName_RoofError : PySem.W.subIn K (.ref C_BadName) (.ref C_RoofError) = some true)
    (h_xb_RoofError : PySem.W.subIn K (.ref C_RoofError) (.type "BaseException") = some true)
    (h_xt_RoofError : PySem.W.typeIn K (.ref C_RoofError) = some (.type "type"))
    (hxi_RoofError : PySem.W.hasDictIn K C_RoofError = true)
    (ki_BadName : PySem.W.isClsIn K C_BadName = true)
    (kt_BadName : PySem.W.typeIn K (.ref C_BadName) = some (.type "type"))
    (ks_Taken_BadName : PySem.W.subIn K (.ref C_Taken) (.ref C_BadName) = some false)
    (kn_Taken_BadName : ¬ C_Taken = C_BadName)
    (ks_BadNumber_BadName : PySem.W.subIn K (.ref C_BadNumber) (.ref C_BadName) = some false)
    (kn_BadNumber_BadName : ¬ C_BadNumber = C_BadName)
    (ks_BadCount_BadName : PySem.W.subIn K (.ref C_BadCount) (.ref C_BadName) = some false)
    (kn_BadCount_BadName : ¬ C_BadCount = C_BadName)
    (h_kp_BadDay : PySem.W.keepIn K (.ref C_BadDay) = true)
    (ki_BadDay : PySem.W.isClsIn K C_BadDay = true)
    (kt_BadDay : PySem.W.typeIn K (.ref C_BadDay) = some (.type "type"))
    (ks_BadName_BadDay : PySem.W.subIn K (.ref C_BadName) (.ref C_BadDay) = some false)
    (kn_BadName_BadDay : ¬ C_BadName = C_BadDay)
    (ks_Taken_BadDay : PySem.W.subIn K (.ref C_Taken) (.ref C_BadDay) = some false)
    (kn_Taken_BadDay : ¬ C_Taken = C_BadDay)
    (ks_BadNumber_BadDay : PySem.W.subIn K (.ref C_BadNumber) (.ref C_BadDay) = some false)
    (kn_BadNumber_BadDay : ¬ C_BadNumber = C_BadDay)
    (ks_BadCount_BadDay : PySem.W.subIn K (.ref C_BadCount) (.ref C_BadDay) = some false)
    (kn_BadCount_BadDay : ¬ C_BadCount = C_BadDay)
    (h_kp_Taken : PySem.W.keepIn K (.ref C_Taken) = true)
    (h_xb_Taken : PySem.W.subIn K (.ref C_Taken) (.type "BaseException") = some true)
    (h_xt_Taken : PySem.W.typeIn K (.ref C_Taken) = some (.type "type"))
    (xh_Taken : PySem.W.hasDictIn K C_Taken = true)
    (xg_Taken : PySem.W.findIn K (.ref C_Taken) "__getattribute__" = some (some (.builtin "BaseException.__getattribute__")))
    (xk_Taken : PySem.W.findIn K (.ref C_Taken) "__getattr__" = some none)
    (xa_Taken : PySem.W.findIn K (.ref C_Taken) "__class__" = some (some (.builtin "object.__class__")))
    (xm_Taken : PySem.W.mroIn K C_Taken (.type "object") = some true)
    (l_Taken_init : K.lookup f_Taken_init = some ⟨oc_Taken_init, od_Taken_init, .func (PySem.W.ksFn "__init__" "Taken.__init__" (defArgs s_Taken_init) (defBody s_Taken_init) (defScope s_Taken_init) .none kV_Taken_init dc_Taken_init pm_Taken_init an_Taken_init (.ref ca_Taken_init) ct_Taken_init cc_Taken_init), sl_Taken_init⟩)
    (c_Taken_init : PySem.W.codeIn K (.ref ca_Taken_init) "Taken.__init__" = true)
    (lc_Taken_init : K.lookup ca_Taken_init = some ⟨ccl_Taken_init, cdd_Taken_init, .fields cvs_Taken_init, ccs_Taken_init⟩)
    (lv_Taken_init : cvs_Taken_init[2]? = some (.str "/claim/cut.py" ctf_Taken_init))
    (ll_Taken_init : K.lookup cc_Taken_init = some ⟨ccc_Taken_init, ccd_Taken_init, .cell (some (.ref C_Taken)), ccx_Taken_init⟩)
    (sx_Taken_init : PySem.W.ks_superIn K C_Taken C_Taken "__init__" = some (some (.builtin "ValueError.__init__")))
    (h_nf_Taken_name : PySem.W.findIn K (.ref C_Taken) "name" = some none)
    (h_nf_Taken_day : PySem.W.findIn K (.ref C_Taken) "day" = some none)
    (h_nf_Taken_count : PySem.W.findIn K (.ref C_Taken) "count" = some none)
    (h_nf_Taken_number : PySem.W.findIn K (.ref C_Taken) "number" = some none)
    (h_nf_Taken_line : PySem.W.findIn K (.ref C_Taken) "line" = some none)
    (sm_Taken_init : PySem.W.mroIn K C_Taken (.ref C_Taken) = some true)
    (sf_Taken_init : PySem.W.typeIn K (.ref f_Taken_init) = some (.type "function"))
    (si_Taken_init : PySem.W.excInitIn K C_Taken [.type "ValueError", .type "Exception", .type "BaseException", .type "object"] "ValueError.__new__" = true)
    (sv_Taken_init : PySem.W.excOver K C_Taken [.type "ValueError", .type "Exception", .type "BaseException", .type "object"] = true)
    (ss_Taken_init : PySem.W.findIn K (.ref C_Taken) "__setattr__" = some (some (.builtin "object.__setattr__")))
    (sb_Taken_init : PySem.W.subIn K (.ref C_Taken) (.type "ValueError") = some true)
    (kb_Taken_ValueError : PySem.W.subIn K (.ref C_Taken) (.type "ValueError") = some true)
    (kb_Taken_LookupError : PySem.W.subIn K (.ref C_Taken) (.type "LookupError") = some false)
    (kb_Taken_ZeroDivisionError : PySem.W.subIn K (.ref C_Taken) (.type "ZeroDivisionError") = some false)
    (kb_Taken_IndexError : PySem.W.subIn K (.ref C_Taken) (.type "IndexError") = some false)
    (h_xe_Taken_RoofError : PySem.W.subIn K (.ref C_Taken) (.ref C_RoofError) = some true)
    (ki_Taken : PySem.W.isClsIn K C_Taken = true)
    (kt_Taken : PySem.W.typeIn K (.ref C_Taken) = some (.type "type"))
    (ks_BadName_Taken : PySem.W.subIn K (.ref C_BadName) (.ref C_Taken) = some false)
    (kn_BadName_Taken : ¬ C_BadName = C_Taken)
    (ks_BadNumber_Taken : PySem.W.subIn K (.ref C_BadNumber) (.ref C_Taken) = some false)
    (kn_BadNumber_Taken : ¬ C_BadNumber = C_Taken)
    (ks_BadCount_Taken : PySem.W.subIn K (.ref C_BadCount) (.ref C_Taken) = some false)
    (kn_BadCount_Taken : ¬ C_BadCount = C_Taken)
    (h_kp_BadNumber : PySem.W.keepIn K (.ref C_BadNumber) = true)
    (h_xb_BadNumber : PySem.W.subIn K (.ref C_BadNumber) (.type "BaseException") = some true)
    (h_xt_BadNumber : PySem.W.typeIn K (.ref C_BadNumber) = some (.type "type"))
    (xh_BadNumber : PySem.W.hasDictIn K C_BadNumber = true)
    (xg_BadNumber : PySem.W.findIn K (.ref C_BadNumber) "__getattribute__" = some (some (.builtin "BaseException.__getattribute__")))
    (xk_BadNumber : PySem.W.findIn K (.ref C_BadNumber) "__getattr__" = some none)
    (xa_BadNumber : PySem.W.findIn K (.ref C_BadNumber) "__class__" = some (some (.builtin "object.__class__")))
    (xm_BadNumber : PySem.W.mroIn K C_BadNumber (.type "object") = some true)
    (l_BadNumber_init : K.lookup f_BadNumber_init = some ⟨oc_BadNumber_init, od_BadNumber_init, .func (PySem.W.ksFn "__init__" "BadNumber.__init__" (defArgs s_BadNumber_init) (defBody s_BadNumber_init) (defScope s_BadNumber_init) .none kV_BadNumber_init dc_BadNumber_init pm_BadNumber_init an_BadNumber_init (.ref ca_BadNumber_init) ct_BadNumber_init cc_BadNumber_init), sl_BadNumber_init⟩)
    (c_BadNumber_init : PySem.W.codeIn K (.ref ca_BadNumber_init) "BadNumber.__init__" = true)
    (lc_BadNumber_init : K.lookup ca_BadNumber_init = some ⟨ccl_BadNumber_init, cdd_BadNumber_init, .fields cvs_BadNumber_init, ccs_BadNumber_init⟩)
    (lv_BadNumber_init : cvs_BadNumber_init[2]? = some (.str "/claim/cut.py" ctf_BadNumber_init))
    (ll_BadNumber_init : K.lookup cc_BadNumber_init = some ⟨ccc_BadNumber_init, ccd_BadNumber_init, .cell (some (.ref C_BadNumber)), ccx_BadNumber_init⟩)
    (sx_BadNumber_init : PySem.W.ks_superIn K C_BadNumber C_BadNumber "__init__" = some (some (.builtin "ValueError.__init__")))
    (h_nf_BadNumber_name : PySem.W.findIn K (.ref C_BadNumber) "name" = some none)
    (h_nf_BadNumber_day : PySem.W.findIn K (.ref C_BadNumber) "day" = some none)
    (h_nf_BadNumber_count : PySem.W.findIn K (.ref C_BadNumber) "count" = some none)
    (h_nf_BadNumber_number : PySem.W.findIn K (.ref C_BadNumber) "number" = some none)
    (h_nf_BadNumber_line : PySem.W.findIn K (.ref C_BadNumber) "line" = some none)
    (sm_BadNumber_init : PySem.W.mroIn K C_BadNumber (.ref C_BadNumber) = some true)
    (sf_BadNumber_init : PySem.W.typeIn K (.ref f_BadNumber_init) = some (.type "function"))
    (si_BadNumber_init : PySem.W.excInitIn K C_BadNumber [.type "ValueError", .type "Exception", .type "BaseException", .type "object"] "ValueError.__new__" = true)
    (sv_BadNumber_init : PySem.W.excOver K C_BadNumber [.type "ValueError", .type "Exception", .type "BaseException", .type "object"] = true)
    (ss_BadNumber_init : PySem.W.findIn K (.ref C_BadNumber) "__setattr__" = some (some (.builtin "object.__setattr__")))
    (sb_BadNumber_init : PySem.W.subIn K (.ref C_BadNumber) (.type "ValueError") = some true)
    (kb_BadNumber_ValueError : PySem.W.subIn K (.ref C_BadNumber) (.type "ValueError") = some true)
    (kb_BadNumber_LookupError : PySem.W.subIn K (.ref C_BadNumber) (.type "LookupError") = some false)
    (kb_BadNumber_ZeroDivisionError : PySem.W.subIn K (.ref C_BadNumber) (.type "ZeroDivisionError") = some false)
    (kb_BadNumber_IndexError : PySem.W.subIn K (.ref C_BadNumber) (.type "IndexError") = some false)
    (h_xe_BadNumber_RoofError : PySem.W.subIn K (.ref C_BadNumber) (.ref C_RoofError) = some true)
    (ki_BadNumber : PySem.W.isClsIn K C_BadNumber = true)
    (kt_BadNumber : PySem.W.typeIn K (.ref C_BadNumber) = some (.type "type"))
    (ks_BadName_BadNumber : PySem.W.subIn K (.ref C_BadName) (.ref C_BadNumber) = some false)
    (kn_BadName_BadNumber : ¬ C_BadName = C_BadNumber)
    (ks_Taken_BadNumber : PySem.W.subIn K (.ref C_Taken) (.ref C_BadNumber) = some false)
    (kn_Taken_BadNumber : ¬ C_Taken = C_BadNumber)
    (ks_BadCount_BadNumber : PySem.W.subIn K (.ref C_BadCount) (.ref C_BadNumber) = some false)
    (kn_BadCount_BadNumber : ¬ C_BadCount = C_BadNumber)
    (h_kp_BadCount : PySem.W.keepIn K (.ref C_BadCount) = true)
    (h_xb_BadCount : PySem.W.subIn K (.ref C_BadCount) (.type "BaseException") = some true)
    (h_xt_BadCount : PySem.W.typeIn K (.ref C_BadCount) = some (.type "type"))
    (xh_BadCount : PySem.W.hasDictIn K C_BadCount = true)
    (xg_BadCount : PySem.W.findIn K (.ref C_BadCount) "__getattribute__" = some (some (.builtin "BaseException.__getattribute__")))
    (xk_BadCount : PySem.W.findIn K (.ref C_BadCount) "__getattr__" = some none)
    (xa_BadCount : PySem.W.findIn K (.ref C_BadCount) "__class__" = some (some (.builtin "object.__class__")))
    (xm_BadCount : PySem.W.mroIn K C_BadCount (.type "object") = some true)
    (l_BadCount_init : K.lookup f_BadCount_init = some ⟨oc_BadCount_init, od_BadCount_init, .func (PySem.W.ksFn "__init__" "BadCount.__init__" (defArgs s_BadCount_init) (defBody s_BadCount_init) (defScope s_BadCount_init) .none kV_BadCount_init dc_BadCount_init pm_BadCount_init an_BadCount_init (.ref ca_BadCount_init) ct_BadCount_init cc_BadCount_init), sl_BadCount_init⟩)
    (c_BadCount_init : PySem.W.codeIn K (.ref ca_BadCount_init) "BadCount.__init__" = true)
    (lc_BadCount_init : K.lookup ca_BadCount_init = some ⟨ccl_BadCount_init, cdd_BadCount_init, .fields cvs_BadCount_init, ccs_BadCount_init⟩)
    (lv_BadCount_init : cvs_BadCount_init[2]? = some (.str "/claim/cut.py" ctf_BadCount_init))
    (ll_BadCount_init : K.lookup cc_BadCount_init = some ⟨ccc_BadCount_init, ccd_BadCount_init, .cell (some (.ref C_BadCount)), ccx_BadCount_init⟩)
    (sx_BadCount_init : PySem.W.ks_superIn K C_BadCount C_BadCount "__init__" = some (some (.builtin "ValueError.__init__")))
    (h_nf_BadCount_name : PySem.W.findIn K (.ref C_BadCount) "name" = some none)
    (h_nf_BadCount_day : PySem.W.findIn K (.ref C_BadCount) "day" = some none)
    (h_nf_BadCount_count : PySem.W.findIn K (.ref C_BadCount) "count" = some none)
    (h_nf_BadCount_number : PySem.W.findIn K (.ref C_BadCount) "number" = some none)
    (h_nf_BadCount_line : PySem.W.findIn K (.ref C_BadCount) "line" = some none)
    (sm_BadCount_init : PySem.W.mroIn K C_BadCount (.ref C_BadCount) = some true)
    (sf_BadCount_init : PySem.W.typeIn K (.ref f_BadCount_init) = some (.type "function"))
    (si_BadCount_init : PySem.W.excInitIn K C_BadCount [.type "ValueError", .type "Exception", .type "BaseException", .type "object"] "ValueError.__new__" = true)
    (sv_BadCount_init : PySem.W.excOver K C_BadCount [.type "ValueError", .type "Exception", .type "BaseException", .type "object"] = true)
    (ss_BadCount_init : PySem.W.findIn K (.ref C_BadCount) "__setattr__" = some (some (.builtin "object.__setattr__")))
    (sb_BadCount_init : PySem.W.subIn K (.ref C_BadCount) (.type "ValueError") = some true)
    (kb_BadCount_ValueError : PySem.W.subIn K (.ref C_BadCount) (.type "ValueError") = some true)
    (kb_BadCount_LookupError : PySem.W.subIn K (.ref C_BadCount) (.type "LookupError") = some false)
    (kb_BadCount_ZeroDivisionError : PySem.W.subIn K (.ref C_BadCount) (.type "ZeroDivisionError") = some false)
    (kb_BadCount_IndexError : PySem.W.subIn K (.ref C_BadCount) (.type "IndexError") = some false)
    (h_xe_BadCount_RoofError : PySem.W.subIn K (.ref C_BadCount) (.ref C_RoofError) = some true)
    (ki_BadCount : PySem.W.isClsIn K C_BadCount = true)
    (kt_BadCount : PySem.W.typeIn K (.ref C_BadCount) = some (.type "type"))
    (ks_BadName_BadCount : PySem.W.subIn K (.ref C_BadName) (.ref C_BadCount) = some false)
    (kn_BadName_BadCount : ¬ C_BadName = C_BadCount)
    (ks_Taken_BadCount : PySem.W.subIn K (.ref C_Taken) (.ref C_BadCount) = some false)
    (kn_Taken_BadCount : ¬ C_Taken = C_BadCount)
    (ks_BadNumber_BadCount : PySem.W.subIn K (.ref C_BadNumber) (.ref C_BadCount) = some false)
    (kn_BadNumber_BadCount : ¬ C_BadNumber = C_BadCount)
    (h_kp_BadDeed : PySem.W.keepIn K (.ref C_BadDeed) = true)
    (ki_BadDeed : PySem.W.isClsIn K C_BadDeed = true)
    (kt_BadDeed : PySem.W.typeIn K (.ref C_BadDeed) = some (.type "type"))
    (ks_BadName_BadDeed : PySem.W.subIn K (.ref C_BadName) (.ref C_BadDeed) = some false)
    (kn_BadName_BadDeed : ¬ C_BadName = C_BadDeed)
    (ks_Taken_BadDeed : PySem.W.subIn K (.ref C_Taken) (.ref C_BadDeed) = some false)
    (kn_Taken_BadDeed : ¬ C_Taken = C_BadDeed)
    (ks_BadNumber_BadDeed : PySem.W.subIn K (.ref C_BadNumber) (.ref C_BadDeed) = some false)
    (kn_BadNumber_BadDeed : ¬ C_BadNumber = C_BadDeed)
    (ks_BadCount_BadDeed : PySem.W.subIn K (.ref C_BadCount) (.ref C_BadDeed) = some false)
    (kn_BadCount_BadDeed : ¬ C_BadCount = C_BadDeed)
    (h_kp_Clash : PySem.W.keepIn K (.ref C_Clash) = true)
    (ki_Clash : PySem.W.isClsIn K C_Clash = true)
    (kt_Clash : PySem.W.typeIn K (.ref C_Clash) = some (.type "type"))
    (ks_BadName_Clash : PySem.W.subIn K (.ref C_BadName) (.ref C_Clash) = some false)
    (kn_BadName_Clash : ¬ C_BadName = C_Clash)
    (ks_Taken_Clash : PySem.W.subIn K (.ref C_Taken) (.ref C_Clash) = some false)
    (kn_Taken_Clash : ¬ C_Taken = C_Clash)
    (ks_BadNumber_Clash : PySem.W.subIn K (.ref C_BadNumber) (.ref C_Clash) = some false)
    (kn_BadNumber_Clash : ¬ C_BadNumber = C_Clash)
    (ks_BadCount_Clash : PySem.W.subIn K (.ref C_BadCount) (.ref C_Clash) = some false)
    (kn_BadCount_Clash : ¬ C_BadCount = C_Clash)
    (h_kp_Full : PySem.W.keepIn K (.ref C_Full) = true)
    (ki_Full : PySem.W.isClsIn K C_Full = true)
    (kt_Full : PySem.W.typeIn K (.ref C_Full) = some (.type "type"))
    (ks_BadName_Full : PySem.W.subIn K (.ref C_BadName) (.ref C_Full) = some false)
    (kn_BadName_Full : ¬ C_BadName = C_Full)
    (ks_Taken_Full : PySem.W.subIn K (.ref C_Taken) (.ref C_Full) = some false)
    (kn_Taken_Full : ¬ C_Taken = C_Full)
    (ks_BadNumber_Full : PySem.W.subIn K (.ref C_BadNumber) (.ref C_Full) = some false)
    (kn_BadNumber_Full : ¬ C_BadNumber = C_Full)
    (ks_BadCount_Full : PySem.W.subIn K (.ref C_BadCount) (.ref C_Full) = some false)
    (kn_BadCount_Full : ¬ C_BadCount = C_Full)
    (h_kp_Short : PySem.W.keepIn K (.ref C_Short) = true)
    (ki_Short : PySem.W.isClsIn K C_Short = true)
    (kt_Short : PySem.W.typeIn K (.ref C_Short) = some (.type "type"))
    (ks_BadName_Short : PySem.W.subIn K (.ref C_BadName) (.ref C_Short) = some false)
    (kn_BadName_Short : ¬ C_BadName = C_Short)
    (ks_Taken_Short : PySem.W.subIn K (.ref C_Taken) (.ref C_Short) = some false)
    (kn_Taken_Short : ¬ C_Taken = C_Short)
    (ks_BadNumber_Short : PySem.W.subIn K (.ref C_BadNumber) (.ref C_Short) = some false)
    (kn_BadNumber_Short : ¬ C_BadNumber = C_Short)
    (ks_BadCount_Short : PySem.W.subIn K (.ref C_BadCount) (.ref C_Short) = some false)
    (kn_BadCount_Short : ¬ C_BadCount = C_Short)
    (h_kp_Ring : PySem.W.keepIn K (.ref C_Ring) = true)
    (ki_Ring : PySem.W.isClsIn K C_Ring = true)
    (kt_Ring : PySem.W.typeIn K (.ref C_Ring) = some (.type "type"))
    (ks_BadName_Ring : PySem.W.subIn K (.ref C_BadName) (.ref C_Ring) = some false)
    (kn_BadName_Ring : ¬ C_BadName = C_Ring)
    (ks_Taken_Ring : PySem.W.subIn K (.ref C_Taken) (.ref C_Ring) = some false)
    (kn_Taken_Ring : ¬ C_Taken = C_Ring)
    (ks_BadNumber_Ring : PySem.W.subIn K (.ref C_BadNumber) (.ref C_Ring) = some false)
    (kn_BadNumber_Ring : ¬ C_BadNumber = C_Ring)
    (ks_BadCount_Ring : PySem.W.subIn K (.ref C_BadCount) (.ref C_Ring) = some false)
    (kn_BadCount_Ring : ¬ C_BadCount = C_Ring)
    (h_kp_NoRow : PySem.W.keepIn K (.ref C_NoRow) = true)
    (ki_NoRow : PySem.W.isClsIn K C_NoRow = true)
    (kt_NoRow : PySem.W.typeIn K (.ref C_NoRow) = some (.type "type"))
    (ks_BadName_NoRow : PySem.W.subIn K (.ref C_BadName) (.ref C_NoRow) = some false)
    (kn_BadName_NoRow : ¬ C_BadName = C_NoRow)
    (ks_Taken_NoRow : PySem.W.subIn K (.ref C_Taken) (.ref C_NoRow) = some false)
    (kn_Taken_NoRow : ¬ C_Taken = C_NoRow)
    (ks_BadNumber_NoRow : PySem.W.subIn K (.ref C_BadNumber) (.ref C_NoRow) = some false)
    (kn_BadNumber_NoRow : ¬ C_BadNumber = C_NoRow)
    (ks_BadCount_NoRow : PySem.W.subIn K (.ref C_BadCount) (.ref C_NoRow) = some false)
    (kn_BadCount_NoRow : ¬ C_BadCount = C_NoRow)
    (h_kp_BadText : PySem.W.keepIn K (.ref C_BadText) = true)
    (ki_BadText : PySem.W.isClsIn K C_BadText = true)
    (kt_BadText : PySem.W.typeIn K (.ref C_BadText) = some (.type "type"))
    (ks_BadName_BadText : PySem.W.subIn K (.ref C_BadName) (.ref C_BadText) = some false)
    (kn_BadName_BadText : ¬ C_BadName = C_BadText)
    (ks_Taken_BadText : PySem.W.subIn K (.ref C_Taken) (.ref C_BadText) = some false)
    (kn_Taken_BadText : ¬ C_Taken = C_BadText)
    (ks_BadNumber_BadText : PySem.W.subIn K (.ref C_BadNumber) (.ref C_BadText) = some false)
    (kn_BadNumber_BadText : ¬ C_BadNumber = C_BadText)
    (ks_BadCount_BadText : PySem.W.subIn K (.ref C_BadCount) (.ref C_BadText) = some false)
    (kn_BadCount_BadText : ¬ C_BadCount = C_BadText)
    (h_kp_BadForm : PySem.W.keepIn K (.ref C_BadForm) = true)
    (ki_BadForm : PySem.W.isClsIn K C_BadForm = true)
    (kt_BadForm : PySem.W.typeIn K (.ref C_BadForm) = some (.type "type"))
    (ks_BadName_BadForm : PySem.W.subIn K (.ref C_BadName) (.ref C_BadForm) = some false)
    (kn_BadName_BadForm : ¬ C_BadName = C_BadForm)
    (ks_Taken_BadForm : PySem.W.subIn K (.ref C_Taken) (.ref C_BadForm) = some false)
    (kn_Taken_BadForm : ¬ C_Taken = C_BadForm)
    (ks_BadNumber_BadForm : PySem.W.subIn K (.ref C_BadNumber) (.ref C_BadForm) = some false)
    (kn_BadNumber_BadForm : ¬ C_BadNumber = C_BadForm)
    (ks_BadCount_BadForm : PySem.W.subIn K (.ref C_BadCount) (.ref C_BadForm) = some false)
    (kn_BadCount_BadForm : ¬ C_BadCount = C_BadForm)
    (h_kp_NoHouse : PySem.W.keepIn K (.ref C_NoHouse) = true)
    (ki_NoHouse : PySem.W.isClsIn K C_NoHouse = true)
    (kt_NoHouse : PySem.W.typeIn K (.ref C_NoHouse) = some (.type "type"))
    (ks_BadName_NoHouse : PySem.W.subIn K (.ref C_BadName) (.ref C_NoHouse) = some false)
    (kn_BadName_NoHouse : ¬ C_BadName = C_NoHouse)
    (ks_Taken_NoHouse : PySem.W.subIn K (.ref C_Taken) (.ref C_NoHouse) = some false)
    (kn_Taken_NoHouse : ¬ C_Taken = C_NoHouse)
    (ks_BadNumber_NoHouse : PySem.W.subIn K (.ref C_BadNumber) (.ref C_NoHouse) = some false)
    (kn_BadNumber_NoHouse : ¬ C_BadNumber = C_NoHouse)
    (ks_BadCount_NoHouse : PySem.W.subIn K (.ref C_BadCount) (.ref C_NoHouse) = some false)
    (kn_BadCount_NoHouse : ¬ C_BadCount = C_NoHouse)
    (h_kp_NoCoin : PySem.W.keepIn K (.ref C_NoCoin) = true)
    (ki_NoCoin : PySem.W.isClsIn K C_NoCoin = true)
    (kt_NoCoin : PySem.W.typeIn K (.ref C_NoCoin) = some (.type "type"))
    (ks_BadName_NoCoin : PySem.W.subIn K (.ref C_BadName) (.ref C_NoCoin) = some false)
    (kn_BadName_NoCoin : ¬ C_BadName = C_NoCoin)
    (ks_Taken_NoCoin : PySem.W.subIn K (.ref C_Taken) (.ref C_NoCoin) = some false)
    (kn_Taken_NoCoin : ¬ C_Taken = C_NoCoin)
    (ks_BadNumber_NoCoin : PySem.W.subIn K (.ref C_BadNumber) (.ref C_NoCoin) = some false)
    (kn_BadNumber_NoCoin : ¬ C_BadNumber = C_NoCoin)
    (ks_BadCount_NoCoin : PySem.W.subIn K (.ref C_BadCount) (.ref C_NoCoin) = some false)
    (kn_BadCount_NoCoin : ¬ C_BadCount = C_NoCoin)
    (h_kp_NoTelling : PySem.W.keepIn K (.ref C_NoTelling) = true)
    (ki_NoTelling : PySem.W.isClsIn K C_NoTelling = true)
    (kt_NoTelling : PySem.W.typeIn K (.ref C_NoTelling) = some (.type "type"))
    (ks_BadName_NoTelling : PySem.W.subIn K (.ref C_BadName) (.ref C_NoTelling) = some false)
    (kn_BadName_NoTelling : ¬ C_BadName = C_NoTelling)
    (ks_Taken_NoTelling : PySem.W.subIn K (.ref C_Taken) (.ref C_NoTelling) = some false)
    (kn_Taken_NoTelling : ¬ C_Taken = C_NoTelling)
    (ks_BadNumber_NoTelling : PySem.W.subIn K (.ref C_BadNumber) (.ref C_NoTelling) = some false)
    (kn_BadNumber_NoTelling : ¬ C_BadNumber = C_NoTelling)
    (ks_BadCount_NoTelling : PySem.W.subIn K (.ref C_BadCount) (.ref C_NoTelling) = some false)
    (kn_BadCount_NoTelling : ¬ C_BadCount = C_NoTelling)
    (h_kp_NotRuled : PySem.W.keepIn K (.ref C_NotRuled) = true)
    (ki_NotRuled : PySem.W.isClsIn K C_NotRuled = true)
    (kt_NotRuled : PySem.W.typeIn K (.ref C_NotRuled) = some (.type "type"))
    (ks_BadName_NotRuled : PySem.W.subIn K (.ref C_BadName) (.ref C_NotRuled) = some false)
    (kn_BadName_NotRuled : ¬ C_BadName = C_NotRuled)
    (ks_Taken_NotRuled : PySem.W.subIn K (.ref C_Taken) (.ref C_NotRuled) = some false)
    (kn_Taken_NotRuled : ¬ C_Taken = C_NotRuled)
    (ks_BadNumber_NotRuled : PySem.W.subIn K (.ref C_BadNumber) (.ref C_NotRuled) = some false)
    (kn_BadNumber_NotRuled : ¬ C_BadNumber = C_NotRuled)
    (ks_BadCount_NotRuled : PySem.W.subIn K (.ref C_BadCount) (.ref C_NotRuled) = some false)
    (kn_BadCount_NotRuled : ¬ C_BadCount = C_NotRuled)
    (h_kp_NoMeasure : PySem.W.keepIn K (.ref C_NoMeasure) = true)
    (ki_NoMeasure : PySem.W.isClsIn K C_NoMeasure = true)
    (kt_NoMeasure : PySem.W.typeIn K (.ref C_NoMeasure) = some (.type "type"))
    (ks_BadName_NoMeasure : PySem.W.subIn K (.ref C_BadName) (.ref C_NoMeasure) = some false)
    (kn_BadName_NoMeasure : ¬ C_BadName = C_NoMeasure)
    (ks_Taken_NoMeasure : PySem.W.subIn K (.ref C_Taken) (.ref C_NoMeasure) = some false)
    (kn_Taken_NoMeasure : ¬ C_Taken = C_NoMeasure)
    (ks_BadNumber_NoMeasure : PySem.W.subIn K (.ref C_BadNumber) (.ref C_NoMeasure) = some false)
    (kn_BadNumber_NoMeasure : ¬ C_BadNumber = C_NoMeasure)
    (ks_BadCount_NoMeasure : PySem.W.subIn K (.ref C_BadCount) (.ref C_NoMeasure) = some false)
    (kn_BadCount_NoMeasure : ¬ C_BadCount = C_NoMeasure)
    (h_kp_Nothing : PySem.W.keepIn K (.ref C_Nothing) = true)
    (ki_Nothing : PySem.W.isClsIn K C_Nothing = true)
    (kt_Nothing : PySem.W.typeIn K (.ref C_Nothing) = some (.type "type"))
    (ks_BadName_Nothing : PySem.W.subIn K (.ref C_BadName) (.ref C_Nothing) = some false)
    (kn_BadName_Nothing : ¬ C_BadName = C_Nothing)
    (ks_Taken_Nothing : PySem.W.subIn K (.ref C_Taken) (.ref C_Nothing) = some false)
    (kn_Taken_Nothing : ¬ C_Taken = C_Nothing)
    (ks_BadNumber_Nothing : PySem.W.subIn K (.ref C_BadNumber) (.ref C_Nothing) = some false)
    (kn_BadNumber_Nothing : ¬ C_BadNumber = C_Nothing)
    (ks_BadCount_Nothing : PySem.W.subIn K (.ref C_BadCount) (.ref C_Nothing) = some false)
    (kn_BadCount_Nothing : ¬ C_BadCount = C_Nothing)
    (h_kp_RoofError : PySem.W.keepIn K (.ref C_RoofError) = true)
    (ki_RoofError : PySem.W.isClsIn K C_RoofError = true)
    (kt_RoofError : PySem.W.typeIn K (.ref C_RoofError) = some (.type "type"))
    (ks_BadName_RoofError : PySem.W.subIn K (.ref C_BadName) (.ref C_RoofError) = some true)
    (kn_BadName_RoofError : ¬ C_BadName = C_RoofError)
    (ks_Taken_RoofError : PySem.W.subIn K (.ref C_Taken) (.ref C_RoofError) = some true)
    (kn_Taken_RoofError : ¬ C_Taken = C_RoofError)
    (ks_BadNumber_RoofError : PySem.W.subIn K (.ref C_BadNumber) (.ref C_RoofError) = some true)
    (kn_BadNumber_RoofError : ¬ C_BadNumber = C_RoofError)
    (ks_BadCount_RoofError : PySem.W.subIn K (.ref C_BadCount) (.ref C_RoofError) = some true)
    (kn_BadCount_RoofError : ¬ C_BadCount = C_RoofError)
    (h_kp_Missing : PySem.W.keepIn K (.ref C_Missing) = true)
    (ki_Missing : PySem.W.isClsIn K C_Missing = true)
    (kt_Missing : PySem.W.typeIn K (.ref C_Missing) = some (.type "type"))
    (ks_BadName_Missing : PySem.W.subIn K (.ref C_BadName) (.ref C_Missing) = some false)
    (kn_BadName_Missing : ¬ C_BadName = C_Missing)
    (ks_Taken_Missing : PySem.W.subIn K (.ref C_Taken) (.ref C_Missing) = some false)
    (kn_Taken_Missing : ¬ C_Taken = C_Missing)
    (ks_BadNumber_Missing : PySem.W.subIn K (.ref C_BadNumber) (.ref C_Missing) = some false)
    (kn_BadNumber_Missing : ¬ C_BadNumber = C_Missing)
    (ks_BadCount_Missing : PySem.W.subIn K (.ref C_BadCount) (.ref C_Missing) = some false)
    (kn_BadCount_Missing : ¬ C_BadCount = C_Missing)
    (b_MOST_COINS : PySem.W.nsIn K mainGlobals "MOST_COINS" = some (some (.int 5 tk_MOST_COINS)))
    (b_MOST_HOUSES : PySem.W.nsIn K mainGlobals "MOST_HOUSES" = some (some (.int 8 tk_MOST_HOUSES)))
    (b_MOST_LETTERS : PySem.W.nsIn K mainGlobals "MOST_LETTERS" = some (some (.int 6 tk_MOST_LETTERS)))
    (b_LETTERS : PySem.W.nsIn K mainGlobals "LETTERS" = some (some (.str "abcdefghijklmnopqrstuvwxyz" tk_LETTERS)))
    (lB_BOUNDS : K.lookup B_BOUNDS = some ⟨.type "dict", none, .dict bes_BOUNDS bn_BOUNDS, #[]⟩)
    (kB_BOUNDS : PySem.W.KeysLit w.params bes_BOUNDS.toList)
    (eB_BOUNDS_rate : PySem.W.nsIn K B_BOUNDS "rate" = some (some (.ref BT_BOUNDS_rate)))
    (tB_BOUNDS_rate : K.lookup BT_BOUNDS_rate = some ⟨.type "tuple", btd_BOUNDS_rate, .seq bti_BOUNDS_rate btn_BOUNDS_rate, bts_BOUNDS_rate⟩)
    (vB_BOUNDS_rate : Vals [V.int 1, V.int 1000000000] bti_BOUNDS_rate.toList)
    (zB_BOUNDS_rate : bti_BOUNDS_rate.size ≤ sizeLine)
    (eB_BOUNDS_shares : PySem.W.nsIn K B_BOUNDS "shares" = some (some (.ref BT_BOUNDS_shares)))
    (tB_BOUNDS_shares : K.lookup BT_BOUNDS_shares = some ⟨.type "tuple", btd_BOUNDS_shares, .seq bti_BOUNDS_shares btn_BOUNDS_shares, bts_BOUNDS_shares⟩)
    (vB_BOUNDS_shares : Vals [V.int 1, V.int 1000000] bti_BOUNDS_shares.toList)
    (zB_BOUNDS_shares : bti_BOUNDS_shares.size ≤ sizeLine)
    (eB_BOUNDS_change : PySem.W.nsIn K B_BOUNDS "change" = some (some (.ref BT_BOUNDS_change)))
    (tB_BOUNDS_change : K.lookup BT_BOUNDS_change = some ⟨.type "tuple", btd_BOUNDS_change, .seq bti_BOUNDS_change btn_BOUNDS_change, bts_BOUNDS_change⟩)
    (vB_BOUNDS_change : Vals [V.int (-1000000000000), V.int 1000000000000] bti_BOUNDS_change.toList)
    (zB_BOUNDS_change : bti_BOUNDS_change.size ≤ sizeLine)
    (eB_BOUNDS_amount : PySem.W.nsIn K B_BOUNDS "amount" = some (some (.ref BT_BOUNDS_amount)))
    (tB_BOUNDS_amount : K.lookup BT_BOUNDS_amount = some ⟨.type "tuple", btd_BOUNDS_amount, .seq bti_BOUNDS_amount btn_BOUNDS_amount, bts_BOUNDS_amount⟩)
    (vB_BOUNDS_amount : Vals [V.int 1, V.int 1000000000000] bti_BOUNDS_amount.toList)
    (zB_BOUNDS_amount : bti_BOUNDS_amount.size ≤ sizeLine)
    (eB_BOUNDS_count : PySem.W.nsIn K B_BOUNDS "count" = some (some (.ref BT_BOUNDS_count)))
    (tB_BOUNDS_count : K.lookup BT_BOUNDS_count = some ⟨.type "tuple", btd_BOUNDS_count, .seq bti_BOUNDS_count btn_BOUNDS_count, bts_BOUNDS_count⟩)
    (vB_BOUNDS_count : Vals [V.int 1, V.int 1000000] bti_BOUNDS_count.toList)
    (zB_BOUNDS_count : bti_BOUNDS_count.size ≤ sizeLine)
    (eB_BOUNDS_price : PySem.W.nsIn K B_BOUNDS "price" = some (some (.ref BT_BOUNDS_price)))
    (tB_BOUNDS_price : K.lookup BT_BOUNDS_price = some ⟨.type "tuple", btd_BOUNDS_price, .seq bti_BOUNDS_price btn_BOUNDS_price, bts_BOUNDS_price⟩)
    (vB_BOUNDS_price : Vals [V.int 0, V.int 1000000000000] bti_BOUNDS_price.toList)
    (zB_BOUNDS_price : bti_BOUNDS_price.size ≤ sizeLine)
    (eB_BOUNDS_times : PySem.W.nsIn K B_BOUNDS "times" = some (some (.ref BT_BOUNDS_times)))
    (tB_BOUNDS_times : K.lookup BT_BOUNDS_times = some ⟨.type "tuple", btd_BOUNDS_times, .seq bti_BOUNDS_times btn_BOUNDS_times, bts_BOUNDS_times⟩)
    (vB_BOUNDS_times : Vals [V.int 2, V.int 9] bti_BOUNDS_times.toList)
    (zB_BOUNDS_times : bti_BOUNDS_times.size ≤ sizeLine)
    (eB_BOUNDS_per : PySem.W.nsIn K B_BOUNDS "per" = some (some (.ref BT_BOUNDS_per)))
    (tB_BOUNDS_per : K.lookup BT_BOUNDS_per = some ⟨.type "tuple", btd_BOUNDS_per, .seq bti_BOUNDS_per btn_BOUNDS_per, bts_BOUNDS_per⟩)
    (vB_BOUNDS_per : Vals [V.int 1, V.int 1000000] bti_BOUNDS_per.toList)
    (zB_BOUNDS_per : bti_BOUNDS_per.size ≤ sizeLine)
    (z_len : PySem.W.nsIn K mainGlobals "len" = some none)
    (z_range : PySem.W.nsIn K mainGlobals "range" = some none)
    (z_isinstance : PySem.W.nsIn K mainGlobals "isinstance" = some none)
    (z_repr : PySem.W.nsIn K mainGlobals "repr" = some none)
    (z_dict : PySem.W.nsIn K mainGlobals "dict" = some none)
    (z_list : PySem.W.nsIn K mainGlobals "list" = some none)
    (z_sorted : PySem.W.nsIn K mainGlobals "sorted" = some none)
    (z_zip : PySem.W.nsIn K mainGlobals "zip" = some none)
    (z_abs : PySem.W.nsIn K mainGlobals "abs" = some none)
    (z_ValueError : PySem.W.nsIn K mainGlobals "ValueError" = some none)
    (z_LookupError : PySem.W.nsIn K mainGlobals "LookupError" = some none)
    (z_ZeroDivisionError : PySem.W.nsIn K mainGlobals "ZeroDivisionError" = some none)
    (z_IndexError : PySem.W.nsIn K mainGlobals "IndexError" = some none)
    (z_all : PySem.W.nsIn K mainGlobals "all" = some none)
    : ∃ fd : FuncData, (∀ (s : Shared) (v : Value), BindsTo s fd ⟨[v], []⟩ [("_law_script", v)]) ∧ ∀ base : Heap, K.In base → base.Ns mainGlobals mg → FnG P w K mg base CX0 7 fa fd ["_law_script"] (spLaw K) := by
  have e := (PySem.W.mg_of X G g_law).symm.trans hfa
  cases e
  have T : Tx ⟨C_World, C_BadName, C_BadDay, C_Taken, C_BadNumber, C_BadCount, C_BadDeed, C_Clash, C_Full, C_Short, C_Ring, C_NoRow, C_BadText, C_BadForm, C_NoHouse, C_NoCoin, C_NoTelling, C_NotRuled, C_NoMeasure, C_Nothing, C_RoofError, C_Missing, f_World_init, (PySem.W.fnOf "__init__" "World.__init__" (defArgs s_World_init) (defBody s_World_init) (defScope s_World_init) .none kV_World_init dc_World_init pm_World_init an_World_init cd_World_init ct_World_init), f_need_number, (PySem.W.fnOf "_need_number" "_need_number" (defArgs s_need_number) (defBody s_need_number) (defScope s_need_number) .none kV_need_number dc_need_number pm_need_number an_need_number cd_need_number ct_need_number), f_need_name, (PySem.W.fnOf "_need_name" "_need_name" (defArgs s_need_name) (defBody s_need_name) (defScope s_need_name) .none kV_need_name dc_need_name pm_need_name an_need_name cd_need_name ct_need_name), f_numbers_by_name, (PySem.W.fnOf "_numbers_by_name" "_numbers_by_name" (defArgs s_numbers_by_name) (defBody s_numbers_by_name) (defScope s_numbers_by_name) .none kV_numbers_by_name dc_numbers_by_name pm_numbers_by_name an_numbers_by_name cd_numbers_by_name ct_numbers_by_name), f_l_cell, (PySem.W.fnOf "_law_cell" "_law_cell" (defArgs s_l_cell) (defBody s_l_cell) (defScope s_l_cell) .none kV_l_cell dc_l_cell pm_l_cell an_l_cell cd_l_cell ct_l_cell), f_l_digits, (PySem.W.fnOf "_law_digits" "_law_digits" (defArgs s_l_digits) (defBody s_l_digits) (defScope s_l_digits) .none kV_l_digits dc_l_digits pm_l_digits an_l_digits cd_l_digits ct_l_digits), f_l_names, (PySem.W.fnOf "_law_names" "_law_names" (defArgs s_l_names) (defBody s_l_names) (defScope s_l_names) .none kV_l_names dc_l_names pm_l_names an_l_names cd_l_names ct_l_names), f_l_name_ok, (PySem.W.fnOf "_law_name_ok" "_law_name_ok" (defArgs s_l_name_ok) (defBody s_l_name_ok) (defScope s_l_name_ok) .none kV_l_name_ok dc_l_name_ok pm_l_name_ok an_l_name_ok cd_l_name_ok ct_l_name_ok), f_l_field, (PySem.W.fnOf "_law_field" "_law_field" (defArgs s_l_field) (defBody s_l_field) (defScope s_l_field) .none kV_l_field dc_l_field pm_l_field an_l_field cd_l_field ct_l_field), f_l_kin, (PySem.W.fnOf "_law_kin" "_law_kin" (defArgs s_l_kin) (defBody s_l_kin) (defScope s_l_kin) .none kV_l_kin dc_l_kin pm_l_kin an_l_kin cd_l_kin ct_l_kin), f_l_same, (PySem.W.fnOf "_law_same" "_law_same" (defArgs s_l_same) (defBody s_l_same) (defScope s_l_same) .none kV_l_same dc_l_same pm_l_same an_l_same cd_l_same ct_l_same), f_l_rows_by, (PySem.W.fnOf "_law_rows_by" "_law_rows_by" (defArgs s_l_rows_by) (defBody s_l_rows_by) (defScope s_l_rows_by) .none kV_l_rows_by dc_l_rows_by pm_l_rows_by an_l_rows_by cd_l_rows_by ct_l_rows_by), f_l_bent, (PySem.W.fnOf "_law_bent" "_law_bent" (defArgs s_l_bent) (defBody s_l_bent) (defScope s_l_bent) .none kV_l_bent dc_l_bent pm_l_bent an_l_bent cd_l_bent ct_l_bent), f_l_look, (PySem.W.fnOf "_law_look" "_law_look" (defArgs s_l_look) (defBody s_l_look) (defScope s_l_look) .none kV_l_look dc_l_look pm_l_look an_l_look cd_l_look ct_l_look), fa, (PySem.W.fnOf "law" "law" (defArgs s_law) (defBody s_law) (defScope s_law) .none kV_law dc_law pm_law an_law cd_law ct_law), B_BOUNDS, BT_BOUNDS_rate, BT_BOUNDS_shares, BT_BOUNDS_change, BT_BOUNDS_amount, BT_BOUNDS_count, BT_BOUNDS_price, BT_BOUNDS_times, BT_BOUNDS_per, f_BadName_init, (PySem.W.ksFn "__init__" "BadName.__init__" (defArgs s_BadName_init) (defBody s_BadName_init) (defScope s_BadName_init) .none kV_BadName_init dc_BadName_init pm_BadName_init an_BadName_init (.ref ca_BadName_init) ct_BadName_init cc_BadName_init), f_Taken_init, (PySem.W.ksFn "__init__" "Taken.__init__" (defArgs s_Taken_init) (defBody s_Taken_init) (defScope s_Taken_init) .none kV_Taken_init dc_Taken_init pm_Taken_init an_Taken_init (.ref ca_Taken_init) ct_Taken_init cc_Taken_init), f_BadNumber_init, (PySem.W.ksFn "__init__" "BadNumber.__init__" (defArgs s_BadNumber_init) (defBody s_BadNumber_init) (defScope s_BadNumber_init) .none kV_BadNumber_init dc_BadNumber_init pm_BadNumber_init an_BadNumber_init (.ref ca_BadNumber_init) ct_BadNumber_init cc_BadNumber_init), f_BadCount_init, (PySem.W.ksFn "__init__" "BadCount.__init__" (defArgs s_BadCount_init) (defBody s_BadCount_init) (defScope s_BadCount_init) .none kV_BadCount_init dc_BadCount_init pm_BadCount_init an_BadCount_init (.ref ca_BadCount_init) ct_BadCount_init cc_BadCount_init)⟩ K mg w := ⟨fun_mk (st := s_World_init) l_World_init c_World_init k_World_init, fun_mk (st := s_need_number) l_need_number c_need_number k_need_number, PySem.W.mg_of X G g_need_number, fun_mk (st := s_need_name) l_need_name c_need_name k_need_name, PySem.W.mg_of X G g_need_name, fun_mk (st := s_numbers_by_name) l_numbers_by_name c_numbers_by_name k_numbers_by_name, PySem.W.mg_of X G g_numbers_by_name, fun_mk (st := s_l_cell) l_l_cell c_l_cell k_l_cell, PySem.W.mg_of X G g_l_cell, fun_mk (st := s_l_digits) l_l_digits c_l_digits k_l_digits, PySem.W.mg_of X G g_l_digits, fun_mk (st := s_l_names) l_l_names c_l_names k_l_names, PySem.W.mg_of X G g_l_names, fun_mk (st := s_l_name_ok) l_l_name_ok c_l_name_ok k_l_name_ok, PySem.W.mg_of X G g_l_name_ok, fun_mk (st := s_l_field) l_l_field c_l_field k_l_field, PySem.W.mg_of X G g_l_field, fun_mk (st := s_l_kin) l_l_kin c_l_kin k_l_kin, PySem.W.mg_of X G g_l_kin, fun_mk (st := s_l_same) l_l_same c_l_same k_l_same, PySem.W.mg_of X G g_l_same, fun_mk (st := s_l_rows_by) l_l_rows_by c_l_rows_by k_l_rows_by, PySem.W.mg_of X G g_l_rows_by, fun_mk (st := s_l_bent) l_l_bent c_l_bent k_l_bent, PySem.W.mg_of X G g_l_bent, fun_mk (st := s_l_look) l_l_look c_l_look k_l_look, PySem.W.mg_of X G g_l_look, fun_mk (st := s_law) l_law c_law k_law, PySem.W.mg_of X G g_law, PySem.W.mg_of X G g_World, h_kp_World, ⟨pg_World, hd_World, po_World, sa_World⟩, ⟨mk_World, in_World, if_World, h_kp_World⟩, h_na_World__rates, h_na_World__shares, PySem.W.mg_of X G g_BadName, h_kp_BadName, h_xb_BadName, h_xt_BadName, ⟨xg_BadName, xk_BadName, h_xb_BadName, xh_BadName, xa_BadName, xn__, xz__, xm_BadName⟩, h_nf_BadName_name, h_nf_BadName_day, h_nf_BadName_count, h_nf_BadName_number, h_nf_BadName_line, ⟨⟨oc_BadName_init, od_BadName_init, kV_BadName_init, dc_BadName_init, pm_BadName_init, an_BadName_init, ca_BadName_init, ct_BadName_init, cc_BadName_init, sl_BadName_init, ccl_BadName_init, cdd_BadName_init, cvs_BadName_init, ccs_BadName_init, ctf_BadName_init, ccc_BadName_init, ccd_BadName_init, ccx_BadName_init, rfl, l_BadName_init, c_BadName_init, lc_BadName_init, lv_BadName_init, ll_BadName_init⟩, sx_BadName_init, so__, PySem.W.mg_none_of X G sg__, h_nf_BadName_name, sm_BadName_init, in_BadName, sf_BadName_init⟩, ⟨PySem.F.excBase_ValueError, PySem.F.store_ValueError, PySem.W.kxs_ValueError, si_BadName_init, sv_BadName_init, xh_BadName, ss_BadName_init, h_xb_BadName, sb_BadName_init, h_xt_BadName, h_kp_BadName⟩, Own.kit_bi (by decide +kernel) kb_BadName_ValueError, Own.kit_bi (by decide +kernel) kb_BadName_LookupError, Own.kit_bi (by decide +kernel) kb_BadName_ZeroDivisionError, Own.kit_bi (by decide +kernel) kb_BadName_IndexError, h_xe_BadName_RoofError, h_xb_RoofError, h_xt_RoofError, hxi_RoofError, Own.kit_self, Own.kit_own ki_BadName kt_BadName ks_Taken_BadName kn_Taken_BadName, Own.kit_own ki_BadName kt_BadName ks_BadNumber_BadName kn_BadNumber_BadName, Own.kit_own ki_BadName kt_BadName ks_BadCount_BadName kn_BadCount_BadName, PySem.W.mg_of X G g_BadDay, h_kp_BadDay, Own.kit_own ki_BadDay kt_BadDay ks_BadName_BadDay kn_BadName_BadDay, Own.kit_own ki_BadDay kt_BadDay ks_Taken_BadDay kn_Taken_BadDay, Own.kit_own ki_BadDay kt_BadDay ks_BadNumber_BadDay kn_BadNumber_BadDay, Own.kit_own ki_BadDay kt_BadDay ks_BadCount_BadDay kn_BadCount_BadDay, PySem.W.mg_of X G g_Taken, h_kp_Taken, h_xb_Taken, h_xt_Taken, ⟨xg_Taken, xk_Taken, h_xb_Taken, xh_Taken, xa_Taken, xn__, xz__, xm_Taken⟩, h_nf_Taken_name, h_nf_Taken_day, h_nf_Taken_count, h_nf_Taken_number, h_nf_Taken_line, ⟨⟨oc_Taken_init, od_Taken_init, kV_Taken_init, dc_Taken_init, pm_Taken_init, an_Taken_init, ca_Taken_init, ct_Taken_init, cc_Taken_init, sl_Taken_init, ccl_Taken_init, cdd_Taken_init, cvs_Taken_init, ccs_Taken_init, ctf_Taken_init, ccc_Taken_init, ccd_Taken_init, ccx_Taken_init, rfl, l_Taken_init, c_Taken_init, lc_Taken_init, lv_Taken_init, ll_Taken_init⟩, sx_Taken_init, so__, PySem.W.mg_none_of X G sg__, h_nf_Taken_name, sm_Taken_init, in_Taken, sf_Taken_init⟩, ⟨PySem.F.excBase_ValueError, PySem.F.store_ValueError, PySem.W.kxs_ValueError, si_Taken_init, sv_Taken_init, xh_Taken, ss_Taken_init, h_xb_Taken, sb_Taken_init, h_xt_Taken, h_kp_Taken⟩, Own.kit_bi (by decide +kernel) kb_Taken_ValueError, Own.kit_bi (by decide +kernel) kb_Taken_LookupError, Own.kit_bi (by decide +kernel) kb_Taken_ZeroDivisionError, Own.kit_bi (by decide +kernel) kb_Taken_IndexError, h_xe_Taken_RoofError, Own.kit_own ki_Taken kt_Taken ks_BadName_Taken kn_BadName_Taken, Own.kit_self, Own.kit_own ki_Taken kt_Taken ks_BadNumber_Taken kn_BadNumber_Taken, Own.kit_own ki_Taken kt_Taken ks_BadCount_Taken kn_BadCount_Taken, PySem.W.mg_of X G g_BadNumber, h_kp_BadNumber, h_xb_BadNumber, h_xt_BadNumber, ⟨xg_BadNumber, xk_BadNumber, h_xb_BadNumber, xh_BadNumber, xa_BadNumber, xn__, xz__, xm_BadNumber⟩, h_nf_BadNumber_name, h_nf_BadNumber_day, h_nf_BadNumber_count, h_nf_BadNumber_number, h_nf_BadNumber_line, ⟨⟨oc_BadNumber_init, od_BadNumber_init, kV_BadNumber_init, dc_BadNumber_init, pm_BadNumber_init, an_BadNumber_init, ca_BadNumber_init, ct_BadNumber_init, cc_BadNumber_init, sl_BadNumber_init, ccl_BadNumber_init, cdd_BadNumber_init, cvs_BadNumber_init, ccs_BadNumber_init, ctf_BadNumber_init, ccc_BadNumber_init, ccd_BadNumber_init, ccx_BadNumber_init, rfl, l_BadNumber_init, c_BadNumber_init, lc_BadNumber_init, lv_BadNumber_init, ll_BadNumber_init⟩, sx_BadNumber_init, so__, PySem.W.mg_none_of X G sg__, h_nf_BadNumber_number, sm_BadNumber_init, in_BadNumber, sf_BadNumber_init⟩, ⟨PySem.F.excBase_ValueError, PySem.F.store_ValueError, PySem.W.kxs_ValueError, si_BadNumber_init, sv_BadNumber_init, xh_BadNumber, ss_BadNumber_init, h_xb_BadNumber, sb_BadNumber_init, h_xt_BadNumber, h_kp_BadNumber⟩, Own.kit_bi (by decide +kernel) kb_BadNumber_ValueError, Own.kit_bi (by decide +kernel) kb_BadNumber_LookupError, Own.kit_bi (by decide +kernel) kb_BadNumber_ZeroDivisionError, Own.kit_bi (by decide +kernel) kb_BadNumber_IndexError, h_xe_BadNumber_RoofError, Own.kit_own ki_BadNumber kt_BadNumber ks_BadName_BadNumber kn_BadName_BadNumber, Own.kit_own ki_BadNumber kt_BadNumber ks_Taken_BadNumber kn_Taken_BadNumber, Own.kit_self, Own.kit_own ki_BadNumber kt_BadNumber ks_BadCount_BadNumber kn_BadCount_BadNumber, PySem.W.mg_of X G g_BadCount, h_kp_BadCount, h_xb_BadCount, h_xt_BadCount, ⟨xg_BadCount, xk_BadCount, h_xb_BadCount, xh_BadCount, xa_BadCount, xn__, xz__, xm_BadCount⟩, h_nf_BadCount_name, h_nf_BadCount_day, h_nf_BadCount_count, h_nf_BadCount_number, h_nf_BadCount_line, ⟨⟨oc_BadCount_init, od_BadCount_init, kV_BadCount_init, dc_BadCount_init, pm_BadCount_init, an_BadCount_init, ca_BadCount_init, ct_BadCount_init, cc_BadCount_init, sl_BadCount_init, ccl_BadCount_init, cdd_BadCount_init, cvs_BadCount_init, ccs_BadCount_init, ctf_BadCount_init, ccc_BadCount_init, ccd_BadCount_init, ccx_BadCount_init, rfl, l_BadCount_init, c_BadCount_init, lc_BadCount_init, lv_BadCount_init, ll_BadCount_init⟩, sx_BadCount_init, so__, PySem.W.mg_none_of X G sg__, h_nf_BadCount_count, sm_BadCount_init, in_BadCount, sf_BadCount_init⟩, ⟨PySem.F.excBase_ValueError, PySem.F.store_ValueError, PySem.W.kxs_ValueError, si_BadCount_init, sv_BadCount_init, xh_BadCount, ss_BadCount_init, h_xb_BadCount, sb_BadCount_init, h_xt_BadCount, h_kp_BadCount⟩, Own.kit_bi (by decide +kernel) kb_BadCount_ValueError, Own.kit_bi (by decide +kernel) kb_BadCount_LookupError, Own.kit_bi (by decide +kernel) kb_BadCount_ZeroDivisionError, Own.kit_bi (by decide +kernel) kb_BadCount_IndexError, h_xe_BadCount_RoofError, Own.kit_own ki_BadCount kt_BadCount ks_BadName_BadCount kn_BadName_BadCount, Own.kit_own ki_BadCount kt_BadCount ks_Taken_BadCount kn_Taken_BadCount, Own.kit_own ki_BadCount kt_BadCount ks_BadNumber_BadCount kn_BadNumber_BadCount, Own.kit_self, PySem.W.mg_of X G g_BadDeed, h_kp_BadDeed, Own.kit_own ki_BadDeed kt_BadDeed ks_BadName_BadDeed kn_BadName_BadDeed, Own.kit_own ki_BadDeed kt_BadDeed ks_Taken_BadDeed kn_Taken_BadDeed, Own.kit_own ki_BadDeed kt_BadDeed ks_BadNumber_BadDeed kn_BadNumber_BadDeed, Own.kit_own ki_BadDeed kt_BadDeed ks_BadCount_BadDeed kn_BadCount_BadDeed, PySem.W.mg_of X G g_Clash, h_kp_Clash, Own.kit_own ki_Clash kt_Clash ks_BadName_Clash kn_BadName_Clash, Own.kit_own ki_Clash kt_Clash ks_Taken_Clash kn_Taken_Clash, Own.kit_own ki_Clash kt_Clash ks_BadNumber_Clash kn_BadNumber_Clash, Own.kit_own ki_Clash kt_Clash ks_BadCount_Clash kn_BadCount_Clash, PySem.W.mg_of X G g_Full, h_kp_Full, Own.kit_own ki_Full kt_Full ks_BadName_Full kn_BadName_Full, Own.kit_own ki_Full kt_Full ks_Taken_Full kn_Taken_Full, Own.kit_own ki_Full kt_Full ks_BadNumber_Full kn_BadNumber_Full, Own.kit_own ki_Full kt_Full ks_BadCount_Full kn_BadCount_Full, PySem.W.mg_of X G g_Short, h_kp_Short, Own.kit_own ki_Short kt_Short ks_BadName_Short kn_BadName_Short, Own.kit_own ki_Short kt_Short ks_Taken_Short kn_Taken_Short, Own.kit_own ki_Short kt_Short ks_BadNumber_Short kn_BadNumber_Short, Own.kit_own ki_Short kt_Short ks_BadCount_Short kn_BadCount_Short, PySem.W.mg_of X G g_Ring, h_kp_Ring, Own.kit_own ki_Ring kt_Ring ks_BadName_Ring kn_BadName_Ring, Own.kit_own ki_Ring kt_Ring ks_Taken_Ring kn_Taken_Ring, Own.kit_own ki_Ring kt_Ring ks_BadNumber_Ring kn_BadNumber_Ring, Own.kit_own ki_Ring kt_Ring ks_BadCount_Ring kn_BadCount_Ring, PySem.W.mg_of X G g_NoRow, h_kp_NoRow, Own.kit_own ki_NoRow kt_NoRow ks_BadName_NoRow kn_BadName_NoRow, Own.kit_own ki_NoRow kt_NoRow ks_Taken_NoRow kn_Taken_NoRow, Own.kit_own ki_NoRow kt_NoRow ks_BadNumber_NoRow kn_BadNumber_NoRow, Own.kit_own ki_NoRow kt_NoRow ks_BadCount_NoRow kn_BadCount_NoRow, PySem.W.mg_of X G g_BadText, h_kp_BadText, Own.kit_own ki_BadText kt_BadText ks_BadName_BadText kn_BadName_BadText, Own.kit_own ki_BadText kt_BadText ks_Taken_BadText kn_Taken_BadText, Own.kit_own ki_BadText kt_BadText ks_BadNumber_BadText kn_BadNumber_BadText, Own.kit_own ki_BadText kt_BadText ks_BadCount_BadText kn_BadCount_BadText, PySem.W.mg_of X G g_BadForm, h_kp_BadForm, Own.kit_own ki_BadForm kt_BadForm ks_BadName_BadForm kn_BadName_BadForm, Own.kit_own ki_BadForm kt_BadForm ks_Taken_BadForm kn_Taken_BadForm, Own.kit_own ki_BadForm kt_BadForm ks_BadNumber_BadForm kn_BadNumber_BadForm, Own.kit_own ki_BadForm kt_BadForm ks_BadCount_BadForm kn_BadCount_BadForm, PySem.W.mg_of X G g_NoHouse, h_kp_NoHouse, Own.kit_own ki_NoHouse kt_NoHouse ks_BadName_NoHouse kn_BadName_NoHouse, Own.kit_own ki_NoHouse kt_NoHouse ks_Taken_NoHouse kn_Taken_NoHouse, Own.kit_own ki_NoHouse kt_NoHouse ks_BadNumber_NoHouse kn_BadNumber_NoHouse, Own.kit_own ki_NoHouse kt_NoHouse ks_BadCount_NoHouse kn_BadCount_NoHouse, PySem.W.mg_of X G g_NoCoin, h_kp_NoCoin, Own.kit_own ki_NoCoin kt_NoCoin ks_BadName_NoCoin kn_BadName_NoCoin, Own.kit_own ki_NoCoin kt_NoCoin ks_Taken_NoCoin kn_Taken_NoCoin, Own.kit_own ki_NoCoin kt_NoCoin ks_BadNumber_NoCoin kn_BadNumber_NoCoin, Own.kit_own ki_NoCoin kt_NoCoin ks_BadCount_NoCoin kn_BadCount_NoCoin, PySem.W.mg_of X G g_NoTelling, h_kp_NoTelling, Own.kit_own ki_NoTelling kt_NoTelling ks_BadName_NoTelling kn_BadName_NoTelling, Own.kit_own ki_NoTelling kt_NoTelling ks_Taken_NoTelling kn_Taken_NoTelling, Own.kit_own ki_NoTelling kt_NoTelling ks_BadNumber_NoTelling kn_BadNumber_NoTelling, Own.kit_own ki_NoTelling kt_NoTelling ks_BadCount_NoTelling kn_BadCount_NoTelling, PySem.W.mg_of X G g_NotRuled, h_kp_NotRuled, Own.kit_own ki_NotRuled kt_NotRuled ks_BadName_NotRuled kn_BadName_NotRuled, Own.kit_own ki_NotRuled kt_NotRuled ks_Taken_NotRuled kn_Taken_NotRuled, Own.kit_own ki_NotRuled kt_NotRuled ks_BadNumber_NotRuled kn_BadNumber_NotRuled, Own.kit_own ki_NotRuled kt_NotRuled ks_BadCount_NotRuled kn_BadCount_NotRuled, PySem.W.mg_of X G g_NoMeasure, h_kp_NoMeasure, Own.kit_own ki_NoMeasure kt_NoMeasure ks_BadName_NoMeasure kn_BadName_NoMeasure, Own.kit_own ki_NoMeasure kt_NoMeasure ks_Taken_NoMeasure kn_Taken_NoMeasure, Own.kit_own ki_NoMeasure kt_NoMeasure ks_BadNumber_NoMeasure kn_BadNumber_NoMeasure, Own.kit_own ki_NoMeasure kt_NoMeasure ks_BadCount_NoMeasure kn_BadCount_NoMeasure, PySem.W.mg_of X G g_Nothing, h_kp_Nothing, Own.kit_own ki_Nothing kt_Nothing ks_BadName_Nothing kn_BadName_Nothing, Own.kit_own ki_Nothing kt_Nothing ks_Taken_Nothing kn_Taken_Nothing, Own.kit_own ki_Nothing kt_Nothing ks_BadNumber_Nothing kn_BadNumber_Nothing, Own.kit_own ki_Nothing kt_Nothing ks_BadCount_Nothing kn_BadCount_Nothing, PySem.W.mg_of X G g_RoofError, h_kp_RoofError, Own.kit_own ki_RoofError kt_RoofError ks_BadName_RoofError kn_BadName_RoofError, Own.kit_own ki_RoofError kt_RoofError ks_Taken_RoofError kn_Taken_RoofError, Own.kit_own ki_RoofError kt_RoofError ks_BadNumber_RoofError kn_BadNumber_RoofError, Own.kit_own ki_RoofError kt_RoofError ks_BadCount_RoofError kn_BadCount_RoofError, PySem.W.mg_of X G g_Missing, h_kp_Missing, Own.kit_own ki_Missing kt_Missing ks_BadName_Missing kn_BadName_Missing, Own.kit_own ki_Missing kt_Missing ks_Taken_Missing kn_Taken_Missing, Own.kit_own ki_Missing kt_Missing ks_BadNumber_Missing kn_BadNumber_Missing, Own.kit_own ki_Missing kt_Missing ks_BadCount_Missing kn_BadCount_Missing, ⟨_, PySem.W.mg_of X G b_MOST_COINS⟩, ⟨_, PySem.W.mg_of X G b_MOST_HOUSES⟩, ⟨_, PySem.W.mg_of X G b_MOST_LETTERS⟩, ⟨_, PySem.W.mg_of X G b_LETTERS⟩, PySem.W.mg_of X G g_BOUNDS, ⟨bes_BOUNDS, bn_BOUNDS, _, lB_BOUNDS, kB_BOUNDS, eB_BOUNDS_rate, rfl⟩, ⟨_, _, _, tB_BOUNDS_rate, rfl, rfl, zB_BOUNDS_rate, vB_BOUNDS_rate⟩, ⟨bes_BOUNDS, bn_BOUNDS, _, lB_BOUNDS, kB_BOUNDS, eB_BOUNDS_shares, rfl⟩, ⟨_, _, _, tB_BOUNDS_shares, rfl, rfl, zB_BOUNDS_shares, vB_BOUNDS_shares⟩, ⟨bes_BOUNDS, bn_BOUNDS, _, lB_BOUNDS, kB_BOUNDS, eB_BOUNDS_change, rfl⟩, ⟨_, _, _, tB_BOUNDS_change, rfl, rfl, zB_BOUNDS_change, vB_BOUNDS_change⟩, ⟨bes_BOUNDS, bn_BOUNDS, _, lB_BOUNDS, kB_BOUNDS, eB_BOUNDS_amount, rfl⟩, ⟨_, _, _, tB_BOUNDS_amount, rfl, rfl, zB_BOUNDS_amount, vB_BOUNDS_amount⟩, ⟨bes_BOUNDS, bn_BOUNDS, _, lB_BOUNDS, kB_BOUNDS, eB_BOUNDS_count, rfl⟩, ⟨_, _, _, tB_BOUNDS_count, rfl, rfl, zB_BOUNDS_count, vB_BOUNDS_count⟩, ⟨bes_BOUNDS, bn_BOUNDS, _, lB_BOUNDS, kB_BOUNDS, eB_BOUNDS_price, rfl⟩, ⟨_, _, _, tB_BOUNDS_price, rfl, rfl, zB_BOUNDS_price, vB_BOUNDS_price⟩, ⟨bes_BOUNDS, bn_BOUNDS, _, lB_BOUNDS, kB_BOUNDS, eB_BOUNDS_times, rfl⟩, ⟨_, _, _, tB_BOUNDS_times, rfl, rfl, zB_BOUNDS_times, vB_BOUNDS_times⟩, ⟨bes_BOUNDS, bn_BOUNDS, _, lB_BOUNDS, kB_BOUNDS, eB_BOUNDS_per, rfl⟩, ⟨_, _, _, tB_BOUNDS_per, rfl, rfl, zB_BOUNDS_per, vB_BOUNDS_per⟩, PySem.W.mg_none_of X G z_len, PySem.W.mg_none_of X G z_range, PySem.W.mg_none_of X G z_isinstance, PySem.W.mg_none_of X G z_repr, PySem.W.mg_none_of X G z_dict, PySem.W.mg_none_of X G z_list, PySem.W.mg_none_of X G z_sorted, PySem.W.mg_none_of X G z_zip, PySem.W.mg_none_of X G z_abs, PySem.W.mg_none_of X G z_ValueError, PySem.W.mg_none_of X G z_LookupError, PySem.W.mg_none_of X G z_ZeroDivisionError, PySem.W.mg_none_of X G z_IndexError, PySem.W.mg_none_of X G z_all⟩
  exact ⟨_, fun s v => .of_eq rfl, fun base _ _ => ok_law T⟩
theorem walk {l : PySem.W.OpenLaw} {q : Program} {loose : List Str} {XP : (Str → Option Value) → Heap → Prop} {YP : World → Heap → Prop} {d : DefRec} {K : Params → PySem.W.Frag} (hn : l.most = some 63) (hdf : d.params.defaults = [])
    (hY : ∀ (w : World) (h : Heap), YP w h → (K w.params).In h)
    (F : ∀ (w : World) (mg : Str → Option Value) (fa : Addr) (h : Heap), (K w.params).In h → h.Ns mainGlobals mg → mg d.name = some (.ref fa) →
      ∃ fd : FuncData, (∀ (s : Shared) (u : Value), BindsTo s fd ⟨[u], []⟩ [("_law_script", u)]) ∧ ∀ base : Heap, (K w.params).In base → base.Ns mainGlobals mg → FnG l.prog w (K w.params) mg base CX0 7 fa fd ["_law_script"] (spLaw (K w.params))) :
    PySem.W.WalkO q loose XP YP l.row.toRowW d [] (fun f vs => PySem.call f vs) :=
  Own.walk_ofG (n := 63) (k := 7) (x := "_law_script") (CX := fun _ => CX0) (sp := fun w => spLaw (K w.params)) hn (by decide) hdf ⟨rfl, by decide, by decide⟩ hY F (fun _ _ a ns hl _ hS => ⟨a, ns, rfl, hS, hl, fun _ => rfl⟩) fun _ _ _ _ _ z => z
end My
open PySem PySem.W PyProof.Rows
set_option maxRecDepth 100000 in
set_option maxHeartbeats 0 in
theorem PySem.Challenge.cw_oneroof_k06_worlds_refused_holds : PySem.Challenge.rw_oneroof_k06_worlds_refused.Holds := by
  w_on; o_law; k_head; (case hw => w_witness2)
  k_fill
  refine My.walk (l := PySem.Challenge.rw_oneroof_k06_worlds_refused) rfl rfl (fun w h Y => PySem.W.kIn_of Y) ?F
  case F =>
    intro w mg fa h KX G hmg
    refine' My.all_mk KX G hmg ?g_need_number ?g_need_name ?g_numbers_by_name ?g_l_cell ?g_l_digits ?g_l_names ?g_l_name_ok ?g_l_field ?g_l_kin ?g_l_same ?g_l_rows_by ?g_l_bent ?g_l_look ?g_law ?g_World ?in_World ?g_BadName ?in_BadName ?g_BadDay ?g_Taken ?in_Taken ?g_BadNumber ?in_BadNumber ?g_BadCount ?in_BadCount ?g_BadDeed ?g_Clash ?g_Full ?g_Short ?g_Ring ?g_NoRow ?g_BadText ?g_BadForm ?g_NoHouse ?g_NoCoin ?g_NoTelling ?g_NotRuled ?g_NoMeasure ?g_Nothing ?g_RoofError ?g_Missing ?g_BOUNDS ?l_World_init ?c_World_init ?k_World_init ?l_need_number ?c_need_number ?k_need_number ?l_need_name ?c_need_name ?k_need_name ?l_numbers_by_name ?c_numbers_by_name ?k_numbers_by_name ?l_l_cell ?c_l_cell ?k_l_cell ?l_l_digits ?c_l_digits ?k_l_digits ?l_l_names ?c_l_names ?k_l_names ?l_l_name_ok ?c_l_name_ok ?k_l_name_ok ?l_l_field ?c_l_field ?k_l_field ?l_l_kin ?c_l_kin ?k_l_kin ?l_l_same ?c_l_same ?k_l_same ?l_l_rows_by ?c_l_rows_by ?k_l_rows_by ?l_l_bent ?c_l_bent ?k_l_bent ?l_l_look ?c_l_look ?k_l_look ?l_law ?c_law ?k_law ?h_kp_World ?pg_World ?hd_World ?po_World ?sa_World ?mk_World ?if_World ?h_na_World__rates ?h_na_World__shares ?h_kp_BadName ?h_xb_BadName ?h_xt_BadName ?xh_BadName ?xg_BadName ?xk_BadName ?xa_BadName ?xm_BadName ?xn__ ?xz__ ?l_BadName_init ?c_BadName_init ?lc_BadName_init ?lv_BadName_init ?ll_BadName_init ?sx_BadName_init ?so__ ?sg__ ?h_nf_BadName_name ?h_nf_BadName_day ?h_nf_BadName_count ?h_nf_BadName_number ?h_nf_BadName_line ?sm_BadName_init ?sf_BadName_init ?si_BadName_init ?sv_BadName_init ?ss_BadName_init ?sb_BadName_init ?kb_BadName_ValueError ?kb_BadName_LookupError ?kb_BadName_ZeroDivisionError ?kb_BadName_IndexError ?h_xe_BadName_RoofError ?h_xb_RoofError ?h_xt_RoofError ?hxi_RoofError ?ki_BadName ?kt_BadName ?ks_Taken_BadName ?kn_Taken_BadName ?ks_BadNumber_BadName ?kn_BadNumber_BadName ?ks_BadCount_BadName ?kn_BadCount_BadName ?h_kp_BadDay ?ki_BadDay ?kt_BadDay ?ks_BadName_BadDay ?kn_BadName_BadDay ?ks_Taken_BadDay ?kn_Taken_BadDay ?ks_BadNumber_BadDay ?kn_BadNumber_BadDay ?ks_BadCount_BadDay ?kn_BadCount_BadDay ?h_kp_Taken ?h_xb_Taken ?h_xt_Taken ?xh_Taken ?xg_Taken ?xk_Taken ?xa_Taken ?xm_Taken ?l_Taken_init ?c_Taken_init ?lc_Taken_init ?lv_Taken_init ?ll_Taken_init ?sx_Taken_init ?h_nf_Taken_name ?h_nf_Taken_day ?h_nf_Taken_count ?h_nf_Taken_number ?h_nf_Taken_line ?sm_Taken_init ?sf_Taken_init ?si_Taken_init ?sv_Taken_init ?ss_Taken_init ?sb_Taken_init ?kb_Taken_ValueError ?kb_Taken_LookupError ?kb_Taken_ZeroDivisionError ?kb_Taken_IndexError ?h_xe_Taken_RoofError ?ki_Taken ?kt_Taken ?ks_BadName_Taken ?kn_BadName_Taken ?ks_BadNumber_Taken ?kn_BadNumber_Taken ?ks_BadCount_Taken ?kn_BadCount_Taken ?h_kp_BadNumber ?h_xb_BadNumber ?h_xt_BadNumber ?xh_BadNumber ?xg_BadNumber ?xk_BadNumber ?xa_BadNumber ?xm_BadNumber ?l_BadNumber_init ?c_BadNumber_init ?lc_BadNumber_init ?lv_BadNumber_init ?ll_BadNumber_init ?sx_BadNumber_init ?h_nf_BadNumber_name ?h_nf_BadNumber_day ?h_nf_BadNumber_count ?h_nf_BadNumber_number ?h_nf_BadNumber_line ?sm_BadNumber_init ?sf_BadNumber_init ?si_BadNumber_init ?sv_BadNumber_init ?ss_BadNumber_init ?sb_BadNumber_init ?kb_BadNumber_ValueError ?kb_BadNumber_LookupError ?kb_BadNumber_ZeroDivisionError ?kb_BadNumber_IndexError ?h_xe_BadNumber_RoofError ?ki_BadNumber ?kt_BadNumber ?ks_BadName_BadNumber ?kn_BadName_BadNumber ?ks_Taken_BadNumber ?kn_Taken_BadNumber ?ks_BadCount_BadNumber ?kn_BadCount_BadNumber ?h_kp_BadCount ?h_xb_BadCount ?h_xt_BadCount ?xh_BadCount ?xg_BadCount ?xk_BadCount ?xa_BadCount ?xm_BadCount ?l_BadCount_init ?c_BadCount_init ?lc_BadCount_init ?lv_BadCount_init ?ll_BadCount_init ?sx_BadCount_init ?h_nf_BadCount_name ?h_nf_BadCount_day ?h_nf_BadCount_count ?h_nf_BadCount_number ?h_nf_BadCount_line ?sm_BadCount_init ?sf_BadCount_init ?si_BadCount_init ?sv_BadCount_init ?ss_BadCount_init ?sb_BadCount_init ?kb_BadCount_ValueError ?kb_BadCount_LookupError ?kb_BadCount_ZeroDivisionError ?kb_BadCount_IndexError ?h_xe_BadCount_RoofError ?ki_BadCount ?kt_BadCount ?ks_BadName_BadCount ?kn_BadName_BadCount ?ks_Taken_BadCount ?kn_Taken_BadCount ?ks_BadNumber_BadCount ?kn_BadNumber_BadCount ?h_kp_BadDeed ?ki_BadDeed ?kt_BadDeed ?ks_BadName_BadDeed ?kn_BadName_BadDeed ?ks_Taken_BadDeed ?kn_Taken_BadDeed ?ks_BadNumber_BadDeed ?kn_BadNumber_BadDeed ?ks_BadCount_BadDeed ?kn_BadCount_BadDeed ?h_kp_Clash ?ki_Clash ?kt_Clash ?ks_BadName_Clash ?kn_BadName_Clash ?ks_Taken_Clash ?kn_Taken_Clash ?ks_BadNumber_Clash ?kn_BadNumber_Clash ?ks_BadCount_Clash ?kn_BadCount_Clash ?h_kp_Full ?ki_Full ?kt_Full ?ks_BadName_Full ?kn_BadName_Full ?ks_Taken_Full ?kn_Taken_Full ?ks_BadNumber_Full ?kn_BadNumber_Full ?ks_BadCount_Full ?kn_BadCount_Full ?h_kp_Short ?ki_Short ?kt_Short ?ks_BadName_Short ?kn_BadName_Short ?ks_Taken_Short ?kn_Taken_Short ?ks_BadNumber_Short ?kn_BadNumber_Short ?ks_BadCount_Short ?kn_BadCount_Short ?h_kp_Ring ?ki_Ring ?kt_Ring ?ks_BadName_Ring ?kn_BadName_Ring ?ks_Taken_Ring ?kn_Taken_Ring ?ks_BadNumber_Ring ?kn_BadNumber_Ring ?ks_BadCount_Ring ?kn_BadCount_Ring ?h_kp_NoRow ?ki_NoRow ?kt_NoRow ?ks_BadName_NoRow ?kn_BadName_NoRow ?ks_Taken_NoRow ?kn_Taken_NoRow ?ks_BadNumber_NoRow ?kn_BadNumber_NoRow ?ks_BadCount_NoRow ?kn_BadCount_NoRow ?h_kp_BadText ?ki_BadText ?kt_BadText ?ks_BadName_BadText ?kn_BadName_BadText ?ks_Taken_BadText ?kn_Taken_BadText ?ks_BadNumber_BadText ?kn_BadNumber_BadText ?ks_BadCount_BadText ?kn_BadCount_BadText ?h_kp_BadForm ?ki_BadForm ?kt_BadForm ?ks_BadName_BadForm ?kn_BadName_BadForm ?ks_Taken_BadForm ?kn_Taken_BadForm ?ks_BadNumber_BadForm ?kn_BadNumber_BadForm ?ks_BadCount_BadForm ?kn_BadCount_BadForm ?h_kp_NoHouse ?ki_NoHouse ?kt_NoHouse ?ks_BadName_NoHouse ?kn_BadName_NoHouse ?ks_Taken_NoHouse ?kn_Taken_NoHouse ?ks_BadNumber_NoHouse ?kn_BadNumber_NoHouse ?ks_BadCount_NoHouse ?kn_BadCount_NoHouse ?h_kp_NoCoin ?ki_NoCoin ?kt_NoCoin ?ks_BadName_NoCoin ?kn_BadName_NoCoin ?ks_Taken_NoCoin ?kn_Taken_NoCoin ?ks_BadNumber_NoCoin ?kn_BadNumber_NoCoin ?ks_BadCount_NoCoin ?kn_BadCount_NoCoin ?h_kp_NoTelling ?ki_NoTelling ?kt_NoTelling ?ks_BadName_NoTelling ?kn_BadName_NoTelling ?ks_Taken_NoTelling ?kn_Taken_NoTelling ?ks_BadNumber_NoTelling ?kn_BadNumber_NoTelling ?ks_BadCount_NoTelling ?kn_BadCount_NoTelling ?h_kp_NotRuled ?ki_NotRuled ?kt_NotRuled ?ks_BadName_NotRuled ?kn_BadName_NotRuled ?ks_Taken_NotRuled ?kn_Taken_NotRuled ?ks_BadNumber_NotRuled ?kn_BadNumber_NotRuled ?ks_BadCount_NotRuled ?kn_BadCount_NotRuled ?h_kp_NoMeasure ?ki_NoMeasure ?kt_NoMeasure ?ks_BadName_NoMeasure ?kn_BadName_NoMeasure ?ks_Taken_NoMeasure ?kn_Taken_NoMeasure ?ks_BadNumber_NoMeasure ?kn_BadNumber_NoMeasure ?ks_BadCount_NoMeasure ?kn_BadCount_NoMeasure ?h_kp_Nothing ?ki_Nothing ?kt_Nothing ?ks_BadName_Nothing ?kn_BadName_Nothing ?ks_Taken_Nothing ?kn_Taken_Nothing ?ks_BadNumber_Nothing ?kn_BadNumber_Nothing ?ks_BadCount_Nothing ?kn_BadCount_Nothing ?h_kp_RoofError ?ki_RoofError ?kt_RoofError ?ks_BadName_RoofError ?kn_BadName_RoofError ?ks_Taken_RoofError ?kn_Taken_RoofError ?ks_BadNumber_RoofError ?kn_BadNumber_RoofError ?ks_BadCount_RoofError ?kn_BadCount_RoofError ?h_kp_Missing ?ki_Missing ?kt_Missing ?ks_BadName_Missing ?kn_BadName_Missing ?ks_Taken_Missing ?kn_Taken_Missing ?ks_BadNumber_Missing ?kn_BadNumber_Missing ?ks_BadCount_Missing ?kn_BadCount_Missing ?b_MOST_COINS ?b_MOST_HOUSES ?b_MOST_LETTERS ?b_LETTERS ?lB_BOUNDS ?kB_BOUNDS ?eB_BOUNDS_rate ?tB_BOUNDS_rate ?vB_BOUNDS_rate ?zB_BOUNDS_rate ?eB_BOUNDS_shares ?tB_BOUNDS_shares ?vB_BOUNDS_shares ?zB_BOUNDS_shares ?eB_BOUNDS_change ?tB_BOUNDS_change ?vB_BOUNDS_change ?zB_BOUNDS_change ?eB_BOUNDS_amount ?tB_BOUNDS_amount ?vB_BOUNDS_amount ?zB_BOUNDS_amount ?eB_BOUNDS_count ?tB_BOUNDS_count ?vB_BOUNDS_count ?zB_BOUNDS_count ?eB_BOUNDS_price ?tB_BOUNDS_price ?vB_BOUNDS_price ?zB_BOUNDS_price ?eB_BOUNDS_times ?tB_BOUNDS_times ?vB_BOUNDS_times ?zB_BOUNDS_times ?eB_BOUNDS_per ?tB_BOUNDS_per ?vB_BOUNDS_per ?zB_BOUNDS_per ?z_len ?z_range ?z_isinstance ?z_repr ?z_dict ?z_list ?z_sorted ?z_zip ?z_abs ?z_ValueError ?z_LookupError ?z_ZeroDivisionError ?z_IndexError ?z_all
    case g_need_number => k_is
    case g_need_name => k_is
    case g_numbers_by_name => k_is
    case g_l_cell => k_is
    case g_l_digits => k_is
    case g_l_names => k_is
    case g_l_name_ok => k_is
    case g_l_field => k_is
    case g_l_kin => k_is
    case g_l_same => k_is
    case g_l_rows_by => k_is
    case g_l_bent => k_is
    case g_l_look => k_is
    case g_law => k_is
    case g_World => k_is
    case in_World => k_is
    case g_BadName => k_is
    case in_BadName => k_is
    case g_BadDay => k_is
    case g_Taken => k_is
    case in_Taken => k_is
    case g_BadNumber => k_is
    case in_BadNumber => k_is
    case g_BadCount => k_is
    case in_BadCount => k_is
    case g_BadDeed => k_is
    case g_Clash => k_is
    case g_Full => k_is
    case g_Short => k_is
    case g_Ring => k_is
    case g_NoRow => k_is
    case g_BadText => k_is
    case g_BadForm => k_is
    case g_NoHouse => k_is
    case g_NoCoin => k_is
    case g_NoTelling => k_is
    case g_NotRuled => k_is
    case g_NoMeasure => k_is
    case g_Nothing => k_is
    case g_RoofError => k_is
    case g_Missing => k_is
    case g_BOUNDS => k_is
    case l_World_init => k_is
    case c_World_init => k_is
    case k_World_init => k_is
    case l_need_number => k_is
    case c_need_number => k_is
    case k_need_number => k_is
    case l_need_name => k_is
    case c_need_name => k_is
    case k_need_name => k_is
    case l_numbers_by_name => k_is
    case c_numbers_by_name => k_is
    case k_numbers_by_name => k_is
    case l_l_cell => k_is
    case c_l_cell => k_is
    case k_l_cell => k_is
    case l_l_digits => k_is
    case c_l_digits => k_is
    case k_l_digits => k_is
    case l_l_names => k_is
    case c_l_names => k_is
    case k_l_names => k_is
    case l_l_name_ok => k_is
    case c_l_name_ok => k_is
    case k_l_name_ok => k_is
    case l_l_field => k_is
    case c_l_field => k_is
    case k_l_field => k_is
    case l_l_kin => k_is
    case c_l_kin => k_is
    case k_l_kin => k_is
    case l_l_same => k_is
    case c_l_same => k_is
    case k_l_same => k_is
    case l_l_rows_by => k_is
    case c_l_rows_by => k_is
    case k_l_rows_by => k_is
    case l_l_bent => k_is
    case c_l_bent => k_is
    case k_l_bent => k_is
    case l_l_look => k_is
    case c_l_look => k_is
    case k_l_look => k_is
    case l_law => k_is
    case c_law => k_is
    case k_law => k_is
    case h_kp_World => k_is
    case pg_World => k_is
    case hd_World => k_is
    case po_World => k_is
    case sa_World => k_is
    case mk_World => k_is
    case if_World => k_is
    case h_na_World__rates => k_is
    case h_na_World__shares => k_is
    case h_kp_BadName => k_is
    case h_xb_BadName => k_is
    case h_xt_BadName => k_is
    case xh_BadName => k_is
    case xg_BadName => k_is
    case xk_BadName => k_is
    case xa_BadName => k_is
    case xm_BadName => k_is
    case xn__ => k_is
    case xz__ => k_is
    case l_BadName_init => k_is
    case c_BadName_init => k_is
    case lc_BadName_init => k_is
    case lv_BadName_init => exact rfl
    case ll_BadName_init => k_is
    case sx_BadName_init => ks_is
    case so__ => k_is
    case sg__ => k_is
    case h_nf_BadName_name => k_is
    case h_nf_BadName_day => k_is
    case h_nf_BadName_count => k_is
    case h_nf_BadName_number => k_is
    case h_nf_BadName_line => k_is
    case sm_BadName_init => k_is
    case sf_BadName_init => k_is
    case si_BadName_init => kx_is
    case sv_BadName_init => kx_is
    case ss_BadName_init => k_is
    case sb_BadName_init => k_is
    case kb_BadName_ValueError => k_is
    case kb_BadName_LookupError => k_is
    case kb_BadName_ZeroDivisionError => k_is
    case kb_BadName_IndexError => k_is
    case h_xe_BadName_RoofError => k_is
    case h_xb_RoofError => k_is
    case h_xt_RoofError => k_is
    case hxi_RoofError => k_is
    case ki_BadName => k_is
    case kt_BadName => k_is
    case ks_Taken_BadName => k_is
    case kn_Taken_BadName => decide
    case ks_BadNumber_BadName => k_is
    case kn_BadNumber_BadName => decide
    case ks_BadCount_BadName => k_is
    case kn_BadCount_BadName => decide
    case h_kp_BadDay => k_is
    case ki_BadDay => k_is
    case kt_BadDay => k_is
    case ks_BadName_BadDay => k_is
    case kn_BadName_BadDay => decide
    case ks_Taken_BadDay => k_is
    case kn_Taken_BadDay => decide
    case ks_BadNumber_BadDay => k_is
    case kn_BadNumber_BadDay => decide
    case ks_BadCount_BadDay => k_is
    case kn_BadCount_BadDay => decide
    case h_kp_Taken => k_is
    case h_xb_Taken => k_is
    case h_xt_Taken => k_is
    case xh_Taken => k_is
    case xg_Taken => k_is
    case xk_Taken => k_is
    case xa_Taken => k_is
    case xm_Taken => k_is
    case l_Taken_init => k_is
    case c_Taken_init => k_is
    case lc_Taken_init => k_is
    case lv_Taken_init => exact rfl
    case ll_Taken_init => k_is
    case sx_Taken_init => ks_is
    case h_nf_Taken_name => k_is
    case h_nf_Taken_day => k_is
    case h_nf_Taken_count => k_is
    case h_nf_Taken_number => k_is
    case h_nf_Taken_line => k_is
    case sm_Taken_init => k_is
    case sf_Taken_init => k_is
    case si_Taken_init => kx_is
    case sv_Taken_init => kx_is
    case ss_Taken_init => k_is
    case sb_Taken_init => k_is
    case kb_Taken_ValueError => k_is
    case kb_Taken_LookupError => k_is
    case kb_Taken_ZeroDivisionError => k_is
    case kb_Taken_IndexError => k_is
    case h_xe_Taken_RoofError => k_is
    case ki_Taken => k_is
    case kt_Taken => k_is
    case ks_BadName_Taken => k_is
    case kn_BadName_Taken => decide
    case ks_BadNumber_Taken => k_is
    case kn_BadNumber_Taken => decide
    case ks_BadCount_Taken => k_is
    case kn_BadCount_Taken => decide
    case h_kp_BadNumber => k_is
    case h_xb_BadNumber => k_is
    case h_xt_BadNumber => k_is
    case xh_BadNumber => k_is
    case xg_BadNumber => k_is
    case xk_BadNumber => k_is
    case xa_BadNumber => k_is
    case xm_BadNumber => k_is
    case l_BadNumber_init => k_is
    case c_BadNumber_init => k_is
    case lc_BadNumber_init => k_is
    case lv_BadNumber_init => exact rfl
    case ll_BadNumber_init => k_is
    case sx_BadNumber_init => ks_is
    case h_nf_BadNumber_name => k_is
    case h_nf_BadNumber_day => k_is
    case h_nf_BadNumber_count => k_is
    case h_nf_BadNumber_number => k_is
    case h_nf_BadNumber_line => k_is
    case sm_BadNumber_init => k_is
    case sf_BadNumber_init => k_is
    case si_BadNumber_init => kx_is
    case sv_BadNumber_init => kx_is
    case ss_BadNumber_init => k_is
    case sb_BadNumber_init => k_is
    case kb_BadNumber_ValueError => k_is
    case kb_BadNumber_LookupError => k_is
    case kb_BadNumber_ZeroDivisionError => k_is
    case kb_BadNumber_IndexError => k_is
    case h_xe_BadNumber_RoofError => k_is
    case ki_BadNumber => k_is
    case kt_BadNumber => k_is
    case ks_BadName_BadNumber => k_is
    case kn_BadName_BadNumber => decide
    case ks_Taken_BadNumber => k_is
    case kn_Taken_BadNumber => decide
    case ks_BadCount_BadNumber => k_is
    case kn_BadCount_BadNumber => decide
    case h_kp_BadCount => k_is
    case h_xb_BadCount => k_is
    case h_xt_BadCount => k_is
    case xh_BadCount => k_is
    case xg_BadCount => k_is
    case xk_BadCount => k_is
    case xa_BadCount => k_is
    case xm_BadCount => k_is
    case l_BadCount_init => k_is
    case c_BadCount_init => k_is
    case lc_BadCount_init => k_is
    case lv_BadCount_init => exact rfl
    case ll_BadCount_init => k_is
    case sx_BadCount_init => ks_is
    case h_nf_BadCount_name => k_is
    case h_nf_BadCount_day => k_is
    case h_nf_BadCount_count => k_is
    case h_nf_BadCount_number => k_is
    case h_nf_BadCount_line => k_is
    case sm_BadCount_init => k_is
    case sf_BadCount_init => k_is
    case si_BadCount_init => kx_is
    case sv_BadCount_init => kx_is
    case ss_BadCount_init => k_is
    case sb_BadCount_init => k_is
    case kb_BadCount_ValueError => k_is
    case kb_BadCount_LookupError => k_is
    case kb_BadCount_ZeroDivisionError => k_is
    case kb_BadCount_IndexError => k_is
    case h_xe_BadCount_RoofError => k_is
    case ki_BadCount => k_is
    case kt_BadCount => k_is
    case ks_BadName_BadCount => k_is
    case kn_BadName_BadCount => decide
    case ks_Taken_BadCount => k_is
    case kn_Taken_BadCount => decide
    case ks_BadNumber_BadCount => k_is
    case kn_BadNumber_BadCount => decide
    case h_kp_BadDeed => k_is
    case ki_BadDeed => k_is
    case kt_BadDeed => k_is
    case ks_BadName_BadDeed => k_is
    case kn_BadName_BadDeed => decide
    case ks_Taken_BadDeed => k_is
    case kn_Taken_BadDeed => decide
    case ks_BadNumber_BadDeed => k_is
    case kn_BadNumber_BadDeed => decide
    case ks_BadCount_BadDeed => k_is
    case kn_BadCount_BadDeed => decide
    case h_kp_Clash => k_is
    case ki_Clash => k_is
    case kt_Clash => k_is
    case ks_BadName_Clash => k_is
    case kn_BadName_Clash => decide
    case ks_Taken_Clash => k_is
    case kn_Taken_Clash => decide
    case ks_BadNumber_Clash => k_is
    case kn_BadNumber_Clash => decide
    case ks_BadCount_Clash => k_is
    case kn_BadCount_Clash => decide
    case h_kp_Full => k_is
    case ki_Full => k_is
    case kt_Full => k_is
    case ks_BadName_Full => k_is
    case kn_BadName_Full => decide
    case ks_Taken_Full => k_is
    case kn_Taken_Full => decide
    case ks_BadNumber_Full => k_is
    case kn_BadNumber_Full => decide
    case ks_BadCount_Full => k_is
    case kn_BadCount_Full => decide
    case h_kp_Short => k_is
    case ki_Short => k_is
    case kt_Short => k_is
    case ks_BadName_Short => k_is
    case kn_BadName_Short => decide
    case ks_Taken_Short => k_is
    case kn_Taken_Short => decide
    case ks_BadNumber_Short => k_is
    case kn_BadNumber_Short => decide
    case ks_BadCount_Short => k_is
    case kn_BadCount_Short => decide
    case h_kp_Ring => k_is
    case ki_Ring => k_is
    case kt_Ring => k_is
    case ks_BadName_Ring => k_is
    case kn_BadName_Ring => decide
    case ks_Taken_Ring => k_is
    case kn_Taken_Ring => decide
    case ks_BadNumber_Ring => k_is
    case kn_BadNumber_Ring => decide
    case ks_BadCount_Ring => k_is
    case kn_BadCount_Ring => decide
    case h_kp_NoRow => k_is
    case ki_NoRow => k_is
    case kt_NoRow => k_is
    case ks_BadName_NoRow => k_is
    case kn_BadName_NoRow => decide
    case ks_Taken_NoRow => k_is
    case kn_Taken_NoRow => decide
    case ks_BadNumber_NoRow => k_is
    case kn_BadNumber_NoRow => decide
    case ks_BadCount_NoRow => k_is
    case kn_BadCount_NoRow => decide
    case h_kp_BadText => k_is
    case ki_BadText => k_is
    case kt_BadText => k_is
    case ks_BadName_BadText => k_is
    case kn_BadName_BadText => decide
    case ks_Taken_BadText => k_is
    case kn_Taken_BadText => decide
    case ks_BadNumber_BadText => k_is
    case kn_BadNumber_BadText => decide
    case ks_BadCount_BadText => k_is
    case kn_BadCount_BadText => decide
    case h_kp_BadForm => k_is
    case ki_BadForm => k_is
    case kt_BadForm => k_is
    case ks_BadName_BadForm => k_is
    case kn_BadName_BadForm => decide
    case ks_Taken_BadForm => k_is
    case kn_Taken_BadForm => decide
    case ks_BadNumber_BadForm => k_is
    case kn_BadNumber_BadForm => decide
    case ks_BadCount_BadForm => k_is
    case kn_BadCount_BadForm => decide
    case h_kp_NoHouse => k_is
    case ki_NoHouse => k_is
    case kt_NoHouse => k_is
    case ks_BadName_NoHouse => k_is
    case kn_BadName_NoHouse => decide
    case ks_Taken_NoHouse => k_is
    case kn_Taken_NoHouse => decide
    case ks_BadNumber_NoHouse => k_is
    case kn_BadNumber_NoHouse => decide
    case ks_BadCount_NoHouse => k_is
    case kn_BadCount_NoHouse => decide
    case h_kp_NoCoin => k_is
    case ki_NoCoin => k_is
    case kt_NoCoin => k_is
    case ks_BadName_NoCoin => k_is
    case kn_BadName_NoCoin => decide
    case ks_Taken_NoCoin => k_is
    case kn_Taken_NoCoin => decide
    case ks_BadNumber_NoCoin => k_is
    case kn_BadNumber_NoCoin => decide
    case ks_BadCount_NoCoin => k_is
    case kn_BadCount_NoCoin => decide
    case h_kp_NoTelling => k_is
    case ki_NoTelling => k_is
    case kt_NoTelling => k_is
    case ks_BadName_NoTelling => k_is
    case kn_BadName_NoTelling => decide
    case ks_Taken_NoTelling => k_is
    case kn_Taken_NoTelling => decide
    case ks_BadNumber_NoTelling => k_is
    case kn_BadNumber_NoTelling => decide
    case ks_BadCount_NoTelling => k_is
    case kn_BadCount_NoTelling => decide
    case h_kp_NotRuled => k_is
    case ki_NotRuled => k_is
    case kt_NotRuled => k_is
    case ks_BadName_NotRuled => k_is
    case kn_BadName_NotRuled => decide
    case ks_Taken_NotRuled => k_is
    case kn_Taken_NotRuled => decide
    case ks_BadNumber_NotRuled => k_is
    case kn_BadNumber_NotRuled => decide
    case ks_BadCount_NotRuled => k_is
    case kn_BadCount_NotRuled => decide
    case h_kp_NoMeasure => k_is
    case ki_NoMeasure => k_is
    case kt_NoMeasure => k_is
    case ks_BadName_NoMeasure => k_is
    case kn_BadName_NoMeasure => decide
    case ks_Taken_NoMeasure => k_is
    case kn_Taken_NoMeasure => decide
    case ks_BadNumber_NoMeasure => k_is
    case kn_BadNumber_NoMeasure => decide
    case ks_BadCount_NoMeasure => k_is
    case kn_BadCount_NoMeasure => decide
    case h_kp_Nothing => k_is
    case ki_Nothing => k_is
    case kt_Nothing => k_is
    case ks_BadName_Nothing => k_is
    case kn_BadName_Nothing => decide
    case ks_Taken_Nothing => k_is
    case kn_Taken_Nothing => decide
    case ks_BadNumber_Nothing => k_is
    case kn_BadNumber_Nothing => decide
    case ks_BadCount_Nothing => k_is
    case kn_BadCount_Nothing => decide
    case h_kp_RoofError => k_is
    case ki_RoofError => k_is
    case kt_RoofError => k_is
    case ks_BadName_RoofError => k_is
    case kn_BadName_RoofError => decide
    case ks_Taken_RoofError => k_is
    case kn_Taken_RoofError => decide
    case ks_BadNumber_RoofError => k_is
    case kn_BadNumber_RoofError => decide
    case ks_BadCount_RoofError => k_is
    case kn_BadCount_RoofError => decide
    case h_kp_Missing => k_is
    case ki_Missing => k_is
    case kt_Missing => k_is
    case ks_BadName_Missing => k_is
    case kn_BadName_Missing => decide
    case ks_Taken_Missing => k_is
    case kn_Taken_Missing => decide
    case ks_BadNumber_Missing => k_is
    case kn_BadNumber_Missing => decide
    case ks_BadCount_Missing => k_is
    case kn_BadCount_Missing => decide
    case b_MOST_COINS => k_is
    case b_MOST_HOUSES => k_is
    case b_MOST_LETTERS => k_is
    case b_LETTERS => k_is
    case lB_BOUNDS => k_is
    case kB_BOUNDS => exact ⟨⟨_, _, rfl, rfl⟩, ⟨⟨_, _, rfl, rfl⟩, ⟨⟨_, _, rfl, rfl⟩, ⟨⟨_, _, rfl, rfl⟩, ⟨⟨_, _, rfl, rfl⟩, ⟨⟨_, _, rfl, rfl⟩, ⟨⟨_, _, rfl, rfl⟩, ⟨⟨_, _, rfl, rfl⟩, trivial⟩⟩⟩⟩⟩⟩⟩⟩
    case eB_BOUNDS_rate => k_is
    case tB_BOUNDS_rate => k_is
    case vB_BOUNDS_rate => exact (.cons ⟨_, rfl⟩ (.cons ⟨_, rfl⟩ .nil))
    case zB_BOUNDS_rate => exact Nat.le_of_ble_eq_true rfl
    case eB_BOUNDS_shares => k_is
    case tB_BOUNDS_shares => k_is
    case vB_BOUNDS_shares => exact (.cons ⟨_, rfl⟩ (.cons ⟨_, rfl⟩ .nil))
    case zB_BOUNDS_shares => exact Nat.le_of_ble_eq_true rfl
    case eB_BOUNDS_change => k_is
    case tB_BOUNDS_change => k_is
    case vB_BOUNDS_change => exact (.cons ⟨_, rfl⟩ (.cons ⟨_, rfl⟩ .nil))
    case zB_BOUNDS_change => exact Nat.le_of_ble_eq_true rfl
    case eB_BOUNDS_amount => k_is
    case tB_BOUNDS_amount => k_is
    case vB_BOUNDS_amount => exact (.cons ⟨_, rfl⟩ (.cons ⟨_, rfl⟩ .nil))
    case zB_BOUNDS_amount => exact Nat.le_of_ble_eq_true rfl
    case eB_BOUNDS_count => k_is
    case tB_BOUNDS_count => k_is
    case vB_BOUNDS_count => exact (.cons ⟨_, rfl⟩ (.cons ⟨_, rfl⟩ .nil))
    case zB_BOUNDS_count => exact Nat.le_of_ble_eq_true rfl
    case eB_BOUNDS_price => k_is
    case tB_BOUNDS_price => k_is
    case vB_BOUNDS_price => exact (.cons ⟨_, rfl⟩ (.cons ⟨_, rfl⟩ .nil))
    case zB_BOUNDS_price => exact Nat.le_of_ble_eq_true rfl
    case eB_BOUNDS_times => k_is
    case tB_BOUNDS_times => k_is
    case vB_BOUNDS_times => exact (.cons ⟨_, rfl⟩ (.cons ⟨_, rfl⟩ .nil))
    case zB_BOUNDS_times => exact Nat.le_of_ble_eq_true rfl
    case eB_BOUNDS_per => k_is
    case tB_BOUNDS_per => k_is
    case vB_BOUNDS_per => exact (.cons ⟨_, rfl⟩ (.cons ⟨_, rfl⟩ .nil))
    case zB_BOUNDS_per => exact Nat.le_of_ble_eq_true rfl
    case z_len => k_is
    case z_range => k_is
    case z_isinstance => k_is
    case z_repr => k_is
    case z_dict => k_is
    case z_list => k_is
    case z_sorted => k_is
    case z_zip => k_is
    case z_abs => k_is
    case z_ValueError => k_is
    case z_LookupError => k_is
    case z_ZeroDivisionError => k_is
    case z_IndexError => k_is
    case z_all => k_is
