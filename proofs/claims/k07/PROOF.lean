import PyProof.Rows.All
import Wide.All
import OpenK.AllK
import Wide.FinOn
import HandS.ForMost
import HandS.Exc
import HandS.OwnEq
import HandS.Gcd
import HandS.RaiseMore
import HandS.IsInst
import HandS.NoneIn
import HandS.FStr
import HandS.Wide
import HandS.Defaults
import HandS.DictComp
import HandS.ListItems
import OpenK.KOps
import PyProof.Rows.RegStrFacts
import PyProof.Rows.ReprOcc
import HandS.Walk
import HandS.Steps
import PySem.Challenge.RW_oneroof_k07_worlds_told
set_option Elab.async false
set_option maxRecDepth 100000
set_option maxHeartbeats 4000000
set_option linter.all false
namespace Own
open PySem PySem.Spec PyProof.Rows L2
section
variable {X : Cx}

/-- what a callee's run gives, told at any room below X -/
theorem run_sub {CX : CXT} {k : Nat} {f : Addr} {fd : FuncData} {ps : List Str} {sp : Sp} {E : XK} {A : Around} {pins : List (Addr × Obj)} {σ : L2.St} {H : Hp} {s : Shared} {R : Value → Shared → Prop} {us : List Value} {vs : List V} {Q : VK}
    (F : FnOk X.prog X.w X.K X.mg X.base CX k f fd ps sp) (sb : Sub X k A) (hb : Binds X.K fd ps []) (hx : Passes CX X E) (I : Inv X pins σ H s) (r : Vals vs us) (h : sp vs H Q E)
    (hR : ∀ v u H' s', Inv X pins σ H' s' → RelV v u → Q v H' → R u s') : wpAny (model X.prog X.w) A (call (.ref f) us) R X.xe s := by
  have e := I.env0
  have e0 : Env0 X.prog X.w X.K X.mg X.base A X.stack s H := ⟨sb.fr.trans e.frames, e.mod, e.bs, e.bsz, e.funs, e.frf, e.hok, e.bare⟩
  have hl : (us ++ []).length = ps.length := by rw [List.append_nil, ← r.length]; exact F.len _ _ _ _ h
  have hb2 := hb s us I.kIn hl
  rw [List.append_nil] at hb2
  refine wpAny_call (codeAny_mono (F.run A X.stack s H ⟨us, []⟩ us vs Q E sb.room e0 hb2 r h) fun z s' hq => ?_)
  cases z with
  | error e => exact hx pins σ H s e s' I hq
  | ok fl =>
    cases fl with
    | ret u =>
      obtain ⟨v, H', I', rv, q⟩ := I.after hq
      exact hR v u H' s' I' rv q
    | next => exact hq.elim
    | brk => exact hq.elim
    | cont => exact hq.elim

/-- repr(o): the class's own __repr__ -/
def rReprI (C : Addr) (sp : Sp) (E : XK) : List V → Hp → VK → Prop := fun vs H Q =>
  ∃ a dx fs, vs = [V.ref a] ∧ H a = some (.ins C dx fs) ∧ sp [.ref a] H (fun v H' => (∃ y, v = .str y) ∧ Q v H') E
theorem call_repr_own {CX : CXT} {k : Nat} {C f : Addr} {fd : FuncData} {ps : List Str} {sp : Sp} {E : XK} (F : FnOk X.prog X.w X.K X.mg X.base CX k f fd ps sp) (hr : Room (k + 1) X.A) (hb : Binds X.K fd ps []) (hx : Passes CX X E)
    (hs : PySem.W.findIn X.K (.ref C) "__repr__" = some (some (.ref f))) (hf : PySem.W.isFn X.K (.ref f) = true) : CallR X (.builtin "repr") (rReprI C sp E) := by
  intro pins s σ H xs us Q I r h
  obtain ⟨a, dx, fs, rfl, ha, h⟩ := h
  obtain ⟨u, rfl, ru⟩ := vals1 r
  obtain rfl : u = Value.ref a := ru
  obtain ⟨mA, J, _⟩ := ins_get I.hok ha
  obtain ⟨od, J, _⟩ := J.look
  obtain ⟨m, hF⟩ := I.fr
  refine PySem.W.repr_K hr.in1.units0 hF I.ok.mod.kin J hs hf ?_
  refine run_sub (A := X.A.in1) (vs := [V.ref a]) F ⟨hr.in1, rfl⟩ hb hx I (.cons (show RelV (V.ref a) (Value.ref a) from rfl) .nil) h fun v u H' s' I' rv q => ?_
  obtain ⟨⟨y, rfl⟩, q⟩ := q
  obtain ⟨t, rfl⟩ := rv
  exact ⟨.str y, H', I', ⟨t, rfl⟩, q⟩

/-- repr of an int, of a text -/
def rReprF : List V → Hp → VK → Prop := fun vs H Q =>
  (∃ i, vs = [V.int i] ∧ i.natAbs.log2 < 1920 ∧ Q (.str (toString i)) H) ∨ ∃ y, vs = [V.str y] ∧ (reprText y).length ≤ sizeLine ∧ Q (.str (reprText y)) H
theorem call_repr_flat : CallR X (.builtin "repr") rReprF := by
  intro pins s σ H xs us Q I r h
  rcases h with ⟨i, rfl, hz, q⟩ | ⟨y, rfl, hz, q⟩
  · exact SkE.call_repr_int pins s σ H _ us Q I r ⟨i, rfl, hz, q⟩
  · obtain ⟨u, rfl, t, rfl⟩ := vals1 r
    exact PySem.P.repr_of_str ⟨.str _, H, I.tok _, ⟨_, rfl⟩, q⟩ hz


theorem typeOf_at {M : Model} {h : Heap} {a : Addr} {o : Obj} (e : h.get? a = some o) : PySem.W.Looks M h (typeOf (.ref a)) o.cls := (PySem.W.Looks.ld e).andThen .now
/-- what the type of such a value is -/
theorem typeOf_ty {pins : List (Addr × Obj)} {σ : L2.St} {H : Hp} {s : Shared} {M : Model} {x : V} {u t : Value} (I : Inv X pins σ H s) (rx : RelV x u) (ty : TyX X.K H x t) : PySem.W.Looks M s.heap (typeOf u) t := by
  cases ty with
  | base b =>
    cases b with
    | non => cases (show u = Value.none from rx); exact .of_pure rfl
    | bl y => cases (show u = Value.bool y from rx); exact .of_pure rfl
    | int i => obtain ⟨t, q⟩ := (show ∃ t, u = Value.int i t from rx); cases q; exact .of_pure rfl
    | str y => obtain ⟨t, q⟩ := (show ∃ t, u = Value.str y t from rx); cases q; exact .of_pure rfl
    | flt y => obtain ⟨t, q⟩ := (show ∃ t, u = Value.float y t from rx); cases q; exact .of_pure rfl
    | @lst a xs ea =>
      cases (show u = Value.ref a from rx)
      obtain ⟨_, _, n, _, h1⟩ := (show ObjOk X.prog X.w H s.heap a (.lst xs) from I.hok a _ ea)
      exact typeOf_at h1
    | @frz a ob xs ea =>
      cases (show u = Value.ref a from rx)
      obtain ⟨_, _, _, n, _, h1⟩ := (show ObjOk X.prog X.w H s.heap a (.frz ob (.lst xs)) from I.hok a _ ea)
      exact typeOf_at h1
    | @tup a xs ea =>
      cases (show u = Value.ref a from rx)
      obtain ⟨_, _, _, o, h1, h2, _⟩ := (show ObjOk X.prog X.w H s.heap a (.tup xs) from I.hok a _ ea)
      exact h2 ▸ typeOf_at h1
    | @dK a kvs ea =>
      cases (show u = Value.ref a from rx)
      obtain ⟨_, _, vs, _, o, es, ep, h1, h2, _⟩ := (show ObjOk X.prog X.w H s.heap a (.dK kvs) from I.hok a _ ea)
      exact h2.1 ▸ typeOf_at h1
    | @dT a kvs ea =>
      cases (show u = Value.ref a from rx)
      obtain ⟨_, _, xs, _, o, es, ep, h1, h2, _⟩ := (show ObjOk X.prog X.w H s.heap a (.dT kvs) from I.hok a _ ea)
      exact h2.1 ▸ typeOf_at h1
    | @ins a C dx fs ea cl ha hn htk hm =>
      cases (show u = Value.ref a from rx)
      obtain ⟨mA, O, _⟩ := ins_get I.hok ea
      obtain ⟨od, J, _⟩ := O.look
      exact J.type
  | byt y => obtain ⟨t, q⟩ := (show ∃ t, u = Value.bytes y t from rx); cases q; exact .of_pure rfl
  | @set a S n ea =>
    cases (show u = Value.ref a from rx)
    obtain ⟨o, _, _, _, e, ex, _⟩ := I.hok a _ ea
    exact ex.1 ▸ typeOf_at e
  | @kList a o e c =>
    cases (show u = Value.ref a from rx)
    exact c ▸ typeOf_at (I.kIn a o e)
  | @kTuple a o e c =>
    cases (show u = Value.ref a from rx)
    exact c ▸ typeOf_at (I.kIn a o e)
  | @kDict a o e c =>
    cases (show u = Value.ref a from rx)
    exact c ▸ typeOf_at (I.kIn a o e)
  | @fTuple a ob xs ea =>
    cases (show u = Value.ref a from rx)
    obtain ⟨_, _, _, _, o, h1, h2, _⟩ := (show ObjOk X.prog X.w H s.heap a (.frz ob (.tup xs)) from I.hok a _ ea)
    exact h2 ▸ typeOf_at h1
  | @fDict a ob kvs ea =>
    cases (show u = Value.ref a from rx)
    obtain ⟨_, _, _, vs, _, o, es, ep, h1, h2, _⟩ := (show ObjOk X.prog X.w H s.heap a (.frz ob (.dK kvs)) from I.hok a _ ea)
    exact h2.1 ▸ typeOf_at h1

/-- a == b by the left one's own __eq__: b of a type that is no subclass of a's class -/
def rEqI (K : PySem.W.Frag) (C : Addr) (sp : Sp) (E : XK) (g : Bool → V) : R2 := fun x y H Q =>
  ∃ a dx fs t, x = V.ref a ∧ H a = some (.ins C dx fs) ∧ TyX K H y t ∧ PySem.W.notFirst K C t = true ∧ sp [.ref a, y] H (fun v H' => ∃ b, v = .bl b ∧ Q (g b) H') E
theorem op_eq_own {CX : CXT} {k : Nat} {C f : Addr} {fd : FuncData} {ps : List Str} {sp : Sp} {E : XK} (F : FnOk X.prog X.w X.K X.mg X.base CX k f fd ps sp) (hr : Room k X.A) (hb : Binds X.K fd ps []) (hx : Passes CX X E)
    (hs : PySem.W.findIn X.K (.ref C) "__eq__" = some (some (.ref f))) (hf : PySem.W.isFn X.K (.ref f) = true) : OpR X (compareOp .Eq) (rEqI X.K C sp E V.bl) := by
  intro pins s σ H x y v u Q I rx ry h
  obtain ⟨a, dx, fs, t, rfl, ha, ty, nf, h⟩ := h
  obtain rfl : v = Value.ref a := rx
  obtain ⟨mA, J, _⟩ := ins_get I.hok ha
  obtain ⟨od, J, _⟩ := J.look
  obtain ⟨m, hF⟩ := I.fr
  show wpAny _ _ (richCompare .Eq (.ref a) u) _ _ _
  refine PySem.W.cmp_K (op := .Eq) hr.units0 hF I.ok.mod.kin J (typeOf_ty I ry ty) nf hs hf ?_
  refine run_sub (vs := [V.ref a, y]) F ⟨hr, rfl⟩ hb hx I (.cons (show RelV (V.ref a) (Value.ref a) from rfl) (.cons ry .nil)) h fun v u H' s' I' rv q => ?_
  obtain ⟨b, rfl, q⟩ := q
  obtain rfl : u = Value.bool b := rv
  exact ⟨.bl b, H', I', rfl, q⟩

/-- a slot that the class has from object: found, bound, called -/
theorem ifBound_B {M : Model} {A : Around} {E : Value → Shared → Prop} {s : Shared} {K : PySem.W.Frag} {x C : Addr} {ox : Obj} {od : Option Obj} {name : Str} {id : String} {args : List Value} {Q : Option Value → Shared → Prop} (X : K.In s.heap) (I : PySem.W.InstAt s.heap x ox C od)
    (hs : PySem.W.findIn K (.ref C) name = some (some (.builtin id))) (hb : ∀ self, bindSpecial (.builtin id) self = pure (.builtin id, [self]))
    (h : wpAny M A (call (.builtin id) (.ref x :: args)) (fun v => Q (some v)) E s) : wpAny M A (callSpecialIfBound? (.ref x) name args) Q E s := by
  have fin : wpAny M A (call (.builtin id) ([.ref x] ++ args) >>= fun v => pure (some v)) Q E s := wpAny_bind (wpAny_mono h (fun v s' h' => wpAny_pure h') fun _ _ h' => h')
  simp only [callSpecialIfBound?, bindSpecialIfBound?]
  refine wpAny_holding (wpAny_bind (wpAny_bind (wpAny_bind (I.type.here ((PySem.W.looks_findIn X hs).here ?_)))))
  refine wpAny_bind (wpAny_askSetting (wpAny_ite ?_))
  split
  · exact wpAny_bind ((PySem.W.Looks.of_pure (hb _)).here (wpAny_pure (by exact fin)))
  · exact wpAny_tryCatch (wpAny_bind ((PySem.W.Looks.of_pure (hb _)).here (wpAny_pure (by exact fin))))
/-- a != b where the class has __eq__ alone: object's __ne__ asks it -/
theorem ne_own {prog : Program} {w : World} {A : Around} {E : Value → Shared → Prop} {s : Shared} {K : PySem.W.Frag} {x C f : Addr} {ox : Obj} {od : Option Obj} {b tb : Value} {Q : Value → Shared → Prop} (hu : A.in1.units < cLine) (X : K.In s.heap) (I : PySem.W.InstAt s.heap x ox C od)
    (hb : PySem.W.Looks (model prog w) s.heap (typeOf b) tb) (hn : PySem.W.notFirst K C tb = true) (hne : PySem.W.findIn K (.ref C) "__ne__" = some (some (.builtin "object.__ne__"))) (hm : PySem.W.mroIn K C (.type "object") = some true)
    (hs : PySem.W.findIn K (.ref C) "__eq__" = some (some (.ref f))) (hf : PySem.W.isFn K (.ref f) = true)
    (h : wpAny (model prog w) A.in1 (call (.ref f) [.ref x, b]) (fun v s' => ∃ k, v = .bool k ∧ Q (.bool (!k)) s') E s) : wpAny (model prog w) A (richCompare .NotEq (.ref x) b) Q E s := by
  have hu0 : A.units < cLine := Nat.lt_of_succ_lt hu
  have body : wpAny (model prog w) A (call (.builtin "object.__ne__") [.ref x, b]) (fun v s' => ∃ k, v = .bool k ∧ Q v s') E s := by
    refine wpAny_call (codeAny_call_builtin PySem.F.slot_object_ne.plain PySem.F.entry_object_ne (PySem.W.check_slot (i := "object.__ne__") (owner := "object") (n := "__ne__") (by decide +kernel) (by decide +kernel) (I.type.andThen (PySem.W.looks_mroIn X hm)) (PySem.F.args_object_ne_2 _ _) ?_))
    unfold Builtin.«object.__ne__»
    refine wpAny_bind (m := PySem.slotArgs "__ne__" 1 _) (wpAny_pure ?_)
    refine wpAny_bind (m := cRoomFor _ _) (wpAny_cRoomFor hu ?_)
    refine wpAny_bind (m := callSpecialIfBound? (.ref x) (Str.ofString "__eq__") _) (PySem.W.ifBound_K X I hs hf (wpAny_mono h (fun v s' hv => ?_) fun _ _ e => e))
    obtain ⟨k, rfl, q⟩ := hv
    exact wpAny_bind (wpAny_truthy_bool (wpAny_pure ⟨_, rfl, q⟩))
  have one : wpAny (model prog w) A (tryCompare (.ref x) (cmpInfo .NotEq).2.1 b) (fun r s' => ∃ v, r = some v ∧ Q v s') E s := by
    unfold tryCompare
    refine wpAny_bind (ifBound_B X I hne PySem.F.slot_object_ne.bind (wpAny_mono body (fun v s' hv => ?_) fun _ _ e => e))
    obtain ⟨k, rfl, q⟩ := hv
    exact wpAny_pure ⟨_, rfl, q⟩
  have fin : ∀ {r : Option Value} {s' : Shared}, (∃ v, r = some v ∧ Q v s') → ∃ v, r = some v ∧ Q v s' := fun z => z
  unfold richCompare
  simp only [PySem.oneThing_ref]
  refine wpAny_holding (wpAny_bind (wpAny_cRoomFor hu0 ?_))
  refine wpAny_bind (I.type.here (wpAny_bind (hb.here ?_)))
  split
  · rename_i q
    have e : PySem.W.subIn K tb (.ref C) = some false := by
      rcases Bool.or_eq_true_iff.mp hn with e | e
      · rw [beq_iff_eq.mp e] at q; simp at q
      · exact beq_iff_eq.mp e
    refine wpAny_bind ((PySem.W.looks_subIn X e).here ?_)
    simp only [Bool.false_eq_true, if_false]
    refine wpAny_bind (wpAny_mono one (fun r s' z => ?_) fun _ _ e => e)
    obtain ⟨v, rfl, hq⟩ := z
    exact wpAny_pure hq
  · refine wpAny_bind (wpAny_pure ?_)
    simp only [Bool.false_eq_true, if_false]
    refine wpAny_bind (wpAny_mono one (fun r s' z => ?_) fun _ _ e => e)
    obtain ⟨v, rfl, hq⟩ := z
    exact wpAny_pure hq
theorem op_ne_own {CX : CXT} {k : Nat} {C f : Addr} {fd : FuncData} {ps : List Str} {sp : Sp} {E : XK} (F : FnOk X.prog X.w X.K X.mg X.base CX k f fd ps sp) (hr : Room (k + 1) X.A) (hb : Binds X.K fd ps []) (hx : Passes CX X E)
    (hs : PySem.W.findIn X.K (.ref C) "__eq__" = some (some (.ref f))) (hf : PySem.W.isFn X.K (.ref f) = true)
    (hne : PySem.W.findIn X.K (.ref C) "__ne__" = some (some (.builtin "object.__ne__"))) (hm : PySem.W.mroIn X.K C (.type "object") = some true) : OpR X (compareOp .NotEq) (rEqI X.K C sp E fun b => V.bl (!b)) := by
  intro pins s σ H x y v u Q I rx ry h
  obtain ⟨a, dx, fs, t, rfl, ha, ty, nf, h⟩ := h
  obtain rfl : v = Value.ref a := rx
  obtain ⟨mA, J, _⟩ := ins_get I.hok ha
  obtain ⟨od, J, _⟩ := J.look
  show wpAny _ _ (richCompare .NotEq (.ref a) u) _ _ _
  refine ne_own hr.in1.units0 I.kIn J (typeOf_ty I ry ty) nf hne hm hs hf ?_
  refine run_sub (A := X.A.in1) (vs := [V.ref a, y]) F ⟨hr.in1, rfl⟩ hb hx I (.cons (show RelV (V.ref a) (Value.ref a) from rfl) (.cons ry .nil)) h fun v u H' s' I' rv q => ?_
  obtain ⟨b, rfl, q⟩ := q
  obtain rfl : u = Value.bool b := rv
  exact ⟨b, rfl, .bl (!b), H', I', rfl, q⟩

/-- // by any number that is not nought, both below 2 ^ 9000 -/
def CDivA (_ j : Int) : Prop := j ≠ 0 ∧ j.natAbs.log2 < 9000
theorem op_fdivA : OpR X (binaryOp .FloorDiv) (rI CDivA fun i j => .int (i.fdiv j)) := opI fun i j _ _ _ _ _ hc q =>
  floordiv_int hc.1 q (.inl (PyProof.noPylong_of_log2 hc.2))
end
end Own

set_option Elab.async false
set_option maxRecDepth 100000
set_option maxHeartbeats 4000000
set_option linter.all false
namespace Own
open PySem PySem.Spec PyProof.Rows L2
/-! places of lists -/
theorem atI_lt {α : Type} {xs : List α} {k : Int} (h0 : 0 ≤ k) (h1 : k < xs.length) : ∃ v, xs[k.toNat]? = some v ∧ atI xs k = some v := by
  have hk : k.toNat < xs.length := by omega
  refine ⟨xs[k.toNat], List.getElem?_eq_getElem hk, ?_⟩
  unfold atI ixN
  rw [if_pos h0, if_pos h1]
  exact List.getElem?_eq_getElem hk
theorem atI_map {α β : Type} {f : α → β} {xs : List α} {k : Int} {v : α} (h : atI xs k = some v) : atI (xs.map f) k = some (f v) := by
  unfold atI at h ⊢
  rw [List.length_map]
  cases e : ixN xs.length k with
  | none => rw [e] at h; cases h
  | some j =>
    rw [e] at h
    have h : xs[j]? = some v := h
    show (xs.map f)[j]? = some (f v)
    rw [List.getElem?_map, h]
    rfl
theorem atI_nat {α : Type} {xs : List α} {j : Nat} {v : α} (h : xs[j]? = some v) : atI xs (j : Int) = some v := by
  have hj := (List.getElem?_eq_some_iff.mp h).1
  obtain ⟨w, h1, h2⟩ := atI_lt (xs := xs) (k := (j : Int)) (by omega) (by omega)
  rw [Int.toNat_natCast, h] at h1
  rw [h2, ← h1]
theorem pick4 {P : Int → Prop} {a b c d k : Int} (h0 : 0 ≤ k) (h1 : k < 4) (ha : P a) (hb : P b) (hc : P c) (hd : P d) : ∃ v, atI [V.int a, .int b, .int c, .int d] k = some (.int v) ∧ P v := by
  rcases (by omega : k = 0 ∨ k = 1 ∨ k = 2 ∨ k = 3) with rfl | rfl | rfl | rfl
  · exact ⟨a, rfl, ha⟩
  · exact ⟨b, rfl, hb⟩
  · exact ⟨c, rfl, hc⟩
  · exact ⟨d, rfl, hd⟩
/-- the two places of a pair -/
theorem atI_0 {α : Type} {x : α} {xs : List α} : atI (x :: xs) 0 = some x := Own.atI_nat (j := 0) rfl
theorem atI_1 {α : Type} {x y : α} {xs : List α} : atI (x :: y :: xs) 1 = some y := Own.atI_nat (j := 1) rfl
theorem drawn5 {ds : List Int} {a b c d e : Int} (h : Paired (fun d z => 0 ≤ d ∧ d < z) ds [a, b, c, d, e]) : ∃ v w x y z : Int, ds = [v, w, x, y, z] ∧ (0 ≤ v ∧ v < a) ∧ (0 ≤ w ∧ w < b) ∧ (0 ≤ x ∧ x < c) ∧ (0 ≤ y ∧ y < d) ∧ (0 ≤ z ∧ z < e) := by
  cases h with
  | cons h1 h => cases h with
    | cons h2 h => cases h with
      | cons h3 h => cases h with
        | cons h4 h => cases h with
          | cons h5 h => cases h with
            | nil => exact ⟨_, _, _, _, _, rfl, h1, h2, h3, h4, h5⟩
theorem drawn4 {ds : List Int} {a b c d : Int} (h : Paired (fun d z => 0 ≤ d ∧ d < z) ds [a, b, c, d]) : ∃ v w x y : Int, ds = [v, w, x, y] ∧ (0 ≤ v ∧ v < a) ∧ (0 ≤ w ∧ w < b) ∧ (0 ≤ x ∧ x < c) ∧ (0 ≤ y ∧ y < d) := by
  cases h with
  | cons h1 h => cases h with
    | cons h2 h => cases h with
      | cons h3 h => cases h with
        | cons h4 h => cases h with
          | nil => exact ⟨_, _, _, _, rfl, h1, h2, h3, h4⟩
theorem drawn3 {ds : List Int} {a b c : Int} (h : Paired (fun d z => 0 ≤ d ∧ d < z) ds [a, b, c]) : ∃ v w x : Int, ds = [v, w, x] ∧ (0 ≤ v ∧ v < a) ∧ (0 ≤ w ∧ w < b) ∧ (0 ≤ x ∧ x < c) := by
  cases h with
  | cons h1 h => cases h with
    | cons h2 h => cases h with
      | cons h3 h => cases h with
        | nil => exact ⟨_, _, _, rfl, h1, h2, h3⟩
/-! products -/
theorem mulWn {i j : Int} (n m : Nat) (hi : i.natAbs < 2 ^ n) (hj : j.natAbs < 2 ^ m) (h0 : 0 < n) (h1 : 0 < m) (h : n + m ≤ 1000000) : CMulW i j := wide_mul hi hj h0 h1 h
theorem mulW64 {i j : Int} (hi : i.natAbs < 2 ^ 64) (hj : j.natAbs < 2 ^ 64) : CMulW i j := wide_mul hi hj (by decide) (by decide) (by decide)
theorem mul_lt {i j : Int} (n m : Nat) (hi : i.natAbs < 2 ^ n) (hj : j.natAbs < 2 ^ m) : (i * j).natAbs < 2 ^ (n + m) := wide_lt hi hj
theorem divA_of {i j : Int} (n : Nat) (h : j ≠ 0) (hj : j.natAbs < 2 ^ n) (h0 : 0 < n) (h9 : n ≤ 9000) : CDivA i j := ⟨h, Nat.lt_of_lt_of_le (PySem.Flt.log2_lt_of h0 hj) h9⟩
theorem log2_of {i : Int} (h : i.natAbs < 2 ^ 1920) : i.natAbs.log2 < 1920 := PySem.Flt.log2_lt_of (by decide) h
/-! loops -/
section
variable {K : PySem.W.Frag} {a : Addr} {xs : List V} {g : TG} {tb : TS} {D : Ends} {σ : L2.St} {H : Hp}
theorem for_listI {j : Nat} (hv : σ[j]? = some (some (.ref a))) (hq : SqL K H a xs) (Pv : Nat → L2.St → Hp → Prop) (h0 : Pv 0 σ H) (hl : ∀ i σ H, i ≤ xs.length → Pv i σ H → SqL K H a xs)
    (hs : ∀ i x σ H, xs[i]? = some x → Pv i σ H → g x σ H fun σ2 H2 => tb { D with nx := Pv (i + 1), ct := Pv (i + 1), bk := D.nx } σ2 H2) (hd : ∀ σ H, Pv xs.length σ H → D.nx σ H) : tFor (iList K (tVar j)) g tb D σ H :=
  ⟨_, hv, a, rfl, ⟨_, hq⟩, for_list Pv h0 hl hs hd⟩
theorem for_rangeI {ta : TA} {n : Int} (hta : ∀ R : List V → Hp → Prop, R [.int n] H → ta σ H R) (h1 : 0 ≤ n) (h2 : n < 2 ^ 62) (Pv : Nat → L2.St → Hp → Prop) (h0 : Pv 0 σ H)
    (hs : ∀ (i : Nat) σ H, i < n.toNat → Pv i σ H → g (.int (0 + (i : Int))) σ H fun σ2 H2 => tb { D with nx := Pv (i + 1), ct := Pv (i + 1), bk := D.nx } σ2 H2) (hd : ∀ σ H, Pv n.toNat σ H → D.nx σ H) : tFor (iRng1 ta) g tb D σ H :=
  hta _ ⟨n, rfl, by omega, h2, for_range Pv h0 hs hd⟩
end
theorem seq_i {t u : TS} {D : Ends} {σ : L2.St} {H : Hp} (h : ∀ N : L2.St → Hp → Prop, (∀ σ H, u D σ H → N σ H) → t { D with nx := N } σ H) : tSeq t u D σ H := h _ fun _ _ x => x
/-! the heap grows -/
theorem alloc {H H1 : Hp} {p : Addr} {o : HO} (hp : H p = none) (h : L2.upd H p o = H1) : Ext H H1 ∧ H1 p = some o := by
  subst h
  exact ⟨Ext.upd hp, upd_same⟩
theorem upd_ext {H H1 : Hp} {p : Addr} {o : HO} (e : Ext H H1) (hp : H p = none) : Ext H (L2.upd H1 p o) := fun b u h => by
  rw [upd_ne (ne_of_none h hp)]
  exact e b u h
theorem Ext.refl' (H : Hp) : Ext H H := fun _ _ h => h
theorem seqL {K : PySem.W.Frag} {H H1 : Hp} {a : Addr} {xs : List V} (h : SqL K H a xs) (e : Ext H H1) : SqL K H1 a xs := SqL.ext h e
theorem ofL {K : PySem.W.Frag} {H : Hp} {a : Addr} {xs : List V} (h : H a = some (.lst xs)) : SqL K H a xs := .inl (.inl h)
theorem ofT {K : PySem.W.Frag} {H : Hp} {a : Addr} {xs : List V} (h : H a = some (.tup xs)) : SqT K H a xs := .inl (.inl h)
/-! a slice of ints is ints -/
theorem cut_ints (ns : List Int) (lo hi : Option Int) : ∃ ms : List Int, cutV (ns.map V.int) lo hi = ms.map V.int ∧ ms.length ≤ ns.length := by
  refine ⟨(ns.drop (HT.sIx (ns.map V.int).length 0 lo)).take (HT.sIx (ns.map V.int).length (ns.map V.int).length hi - HT.sIx (ns.map V.int).length 0 lo), ?_, ?_⟩
  · unfold cutV
    rw [List.map_take, List.map_drop]
  · rw [List.length_take, List.length_drop]
    omega
/-! drawn numbers -/
abbrev Drawn (ds szs : List Int) : Prop := Paired (fun d z => 0 ≤ d ∧ d < z) ds szs
theorem take_snoc {α : Type} {xs : List α} {i : Nat} {x : α} (h : xs[i]? = some x) : xs.take (i + 1) = xs.take i ++ [x] := by
  rw [List.take_add_one, h]
  rfl
theorem tyLst {K : PySem.W.Frag} {H : Hp} {p : Addr} {xs : List V} (h : H p = some (.lst xs)) : tyV K "list" (.ref p) H := .inl ⟨rfl, _, .inl (.inl h)⟩
/-- a def with defaults that lets nothing out -/
theorem okD {P : Program} {w : World} {K : PySem.W.Frag} {mg : Str → Option Value} {base : Heap} {x qual : Str} {params : Arguments} {body : List Stmt} {scope : Scope} {dvs : List V} {kws : List (Str × V)} {f : Addr} {fd : FuncData} {N ps : List Str} {k : Nat} {sp : Sp}
    (F : FunD K x qual params body scope dvs kws f fd) (S : FnScope N ps scope) (len : ∀ vs H Q E, sp vs H Q E → vs.length = ps.length)
    (hbody : ∀ (cdv : Value) (A : Around) (outer : List Env) (s : Shared) (H : Hp) (vs : List V) (Q : VK) (E : XK), Room k (A.deeper (envOfC qual scope s.heap.objs.size f cdv)) → sp vs H Q E →
      ∃ t, PSs (cxOf CX0 P w K mg base N qual scope f cdv A outer s H E).nox body t ∧ t { nx := fun _ H' => Q .non H', rt := Q } (L2.start N vs) H) : FnOk P w K mg base CX0 (k + 1) f fd ps sp :=
  F.ok S len fun cdv A outer s H vs Q E hr h => by
    obtain ⟨t, h1, h2⟩ := hbody cdv A outer s H vs Q E hr h
    exact ⟨t, h1.nox, h2⟩
/-- what is never reached -/
theorem pe_never {X : Cx} {e : Expr} : PE X e (fun _ _ _ => False) := ⟨fun _ _ _ _ _ _ h => h.elim⟩
/-- an instance made: its dict, itself, its fields -/
theorem makeP {H H1 : Hp} {x dx C : Addr} {fs0 fs : List (Str × V)} (hx : H x = none) (hd : H dx = none) (h : L2.upd (L2.upd (L2.upd H dx (.own x)) x (.ins C dx fs0)) x (.ins C dx fs) = H1) : Ext H H1 ∧ H1 x = some (.ins C dx fs) := by
  subst h
  exact ⟨upd_ext (upd_ext (Ext.upd hd) hx) hx, upd_same⟩
/-! isinstance against an own class -/
theorem kit_self {K : PySem.W.Frag} {C : Addr} : PySem.W.kitOne K (.ref C) (.ref C) = some true := by
  unfold PySem.W.kitOne
  rw [if_pos (by simp)]
theorem kit_cls_of {K : PySem.W.Frag} {C : Addr} {t : Value} {b : Bool} (h1 : PySem.W.isClsIn K C = true) (h2 : PySem.W.typeIn K (.ref C) = some (.type "type")) (h3 : PySem.W.subIn K t (.ref C) = some b) : PySem.W.kitCls K t (.ref C) = some b := by
  unfold PySem.W.kitCls
  unfold PySem.W.isClsIn at h1
  show (if ((PySem.W.clsIn K C).isSome && PySem.W.typeIn K (.ref C) == some (.type "type")) = true then PySem.W.subIn K t (.ref C) else none) = some b
  rw [h1, h2, if_pos (by simp), h3]
theorem kit_own {K : PySem.W.Frag} {C D : Addr} {b : Bool} (h1 : PySem.W.isClsIn K C = true) (h2 : PySem.W.typeIn K (.ref C) = some (.type "type")) (h3 : PySem.W.subIn K (.ref D) (.ref C) = some b) (hne : ¬ D = C) : PySem.W.kitOne K (.ref D) (.ref C) = some b := by
  unfold PySem.W.kitOne
  rw [if_neg (by simpa using hne)]
  exact kit_cls_of h1 h2 h3
theorem kit_ty {K : PySem.W.Frag} {C : Addr} {n : String} {b : Bool} (h1 : PySem.W.isClsIn K C = true) (h2 : PySem.W.typeIn K (.ref C) = some (.type "type")) (h3 : PySem.W.subIn K (.type n) (.ref C) = some b) : PySem.W.kitOne K (.type n) (.ref C) = some b := by
  unfold PySem.W.kitOne
  rw [if_neg (by simp)]
  exact kit_cls_of h1 h2 h3
/-! fields -/
theorem lookup_ne {f g : Str} {v : V} {fs : List (Str × V)} (h : ¬ g = f) : (putF f v fs).lookup g = fs.lookup g := by rw [lookup_putF, if_neg h]
theorem lookup_eq {f : Str} {v : V} {fs : List (Str × V)} : (putF f v fs).lookup f = some v := by rw [lookup_putF, if_pos rfl]
/-- the fields of a Part -/
def fsP (t l : Int) : List (Str × V) := putF "low" (.int l) (putF "top" (.int t) [])
theorem fsP_top (t l : Int) : (fsP t l).lookup ("top" : Str) = some (.int t) := by
  unfold fsP
  rw [lookup_ne (by decide +kernel), lookup_eq]
theorem fsP_low (t l : Int) : (fsP t l).lookup ("low" : Str) = some (.int l) := lookup_eq
theorem fsP_no (t l : Int) {m : Str} (h1 : ¬ m = "top") (h2 : ¬ m = "low") : (fsP t l).lookup m = none := by
  unfold fsP
  rw [lookup_ne h2, lookup_ne h1]
  rfl
/-- a Part at p -/
def PartAt (C : Addr) (H : Hp) (p : Addr) (t l : Int) : Prop := ∃ dx, H p = some (.ins C dx (fsP t l))
theorem PartAt.ext {C : Addr} {H H1 : Hp} {p : Addr} {t l : Int} (h : PartAt C H p t l) (e : Ext H H1) : PartAt C H1 p t l := let ⟨dx, h⟩ := h; ⟨dx, e _ _ h⟩
def sgn (t : Int) : Int := if t = 0 then 0 else if 0 < t then 1 else -1
/-- how a fraction shows -/
def showP (t l : Int) : Str := if l = 1 then ((toString t : String) : Str) else (((toString t : String) : Str) ++ (Str.ofString "/")) ++ ((toString l : String) : Str)
/-! fractions -/
def gcdI (t l : Int) : Int := ((Nat.gcd t.natAbs l.natAbs : Nat) : Int)
def fracT (t l : Int) : Int := ((if 0 < l then 1 else -1) * t) / gcdI t l
def fracL (t l : Int) : Int := (l.natAbs : Int) / gcdI t l
theorem gcdI_pos {t l : Int} (h : l ≠ 0) : 0 < gcdI t l := by
  unfold gcdI
  have : 0 < Nat.gcd t.natAbs l.natAbs := Nat.gcd_pos_of_pos_right _ (by omega)
  omega
theorem gcdI_le {t l : Int} (h : l ≠ 0) : (gcdI t l).natAbs ≤ l.natAbs := by
  unfold gcdI
  rw [Int.natAbs_natCast]
  exact Nat.le_of_dvd (by omega) (Nat.gcd_dvd_right _ _)
theorem gcdI_dvd_t (t l : Int) : gcdI t l ∣ t := Int.ofNat_dvd_left.mpr (Nat.gcd_dvd_left _ _)
theorem gcdI_dvd_l (t l : Int) : gcdI t l ∣ l := Int.ofNat_dvd_left.mpr (Nat.gcd_dvd_right _ _)
theorem fdiv_neg_dvd {t g : Int} (h : g ∣ t) : t.fdiv (-g) = -(t / g) := by
  rw [Int.fdiv_eq_ediv_of_dvd (Int.neg_dvd.mpr h), Int.ediv_neg]
theorem frac_pos {t l : Int} (h : 0 < l) : t.fdiv (gcdI t l) = fracT t l ∧ l.fdiv (gcdI t l) = fracL t l := by
  refine ⟨?_, ?_⟩
  · unfold fracT
    rw [if_pos h, Int.one_mul, Int.fdiv_eq_ediv_of_dvd (gcdI_dvd_t t l)]
  · unfold fracL
    rw [Int.fdiv_eq_ediv_of_dvd (gcdI_dvd_l t l), Int.natAbs_of_nonneg (by omega)]
theorem frac_neg {t l : Int} (h : l < 0) : t.fdiv (-gcdI t l) = fracT t l ∧ l.fdiv (-gcdI t l) = fracL t l := by
  refine ⟨?_, ?_⟩
  · unfold fracT
    rw [if_neg (by omega), fdiv_neg_dvd (gcdI_dvd_t t l), Int.neg_mul, Int.one_mul, Int.neg_ediv_of_dvd (gcdI_dvd_t t l)]
  · unfold fracL
    rw [fdiv_neg_dvd (gcdI_dvd_l t l), ← Int.neg_ediv_of_dvd (gcdI_dvd_l t l)]
    congr 1
    omega
theorem gcdI_scale {k : Int} (hk : 0 < k) (t l : Int) : gcdI (t * k) (l * k) = gcdI t l * k := by
  unfold gcdI
  rw [Int.natAbs_mul, Int.natAbs_mul, Nat.gcd_mul_right, Int.natCast_mul, Int.natAbs_of_nonneg (by omega)]
theorem frac_scale {k : Int} (hk : 0 < k) (t l : Int) : fracT (t * k) (l * k) = fracT t l ∧ fracL (t * k) (l * k) = fracL t l := by
  have hs : (0 < l * k) ↔ (0 < l) := by
    constructor
    · intro h
      rcases Int.lt_trichotomy l 0 with h1 | h1 | h1
      · have := Int.mul_neg_of_neg_of_pos h1 hk
        omega
      · subst h1; omega
      · exact h1
    · exact fun h => Int.mul_pos h hk
  refine ⟨?_, ?_⟩
  · unfold fracT
    rw [gcdI_scale hk, ← Int.mul_assoc]
    have e : (if 0 < l * k then (1 : Int) else -1) = if 0 < l then 1 else -1 := by
      by_cases h : 0 < l
      · rw [if_pos h, if_pos (hs.mpr h)]
      · rw [if_neg h, if_neg (fun z => h (hs.mp z))]
    rw [e]
    exact Int.mul_ediv_mul_of_pos_left _ _ hk
  · unfold fracL
    rw [gcdI_scale hk, Int.natAbs_mul, Int.natCast_mul, Int.natAbs_of_nonneg (a := k) (by omega)]
    exact Int.mul_ediv_mul_of_pos_left _ _ hk
theorem fracL_pos {t l : Int} (h : l ≠ 0) : 0 < fracL t l := by
  unfold fracL
  have hd : gcdI t l ∣ (l.natAbs : Int) := Int.ofNat_dvd_left.mpr (by rw [Int.natAbs_natCast]; exact Nat.gcd_dvd_right _ _)
  obtain ⟨c, hc⟩ := hd
  have hg := gcdI_pos (t := t) h
  rw [hc, Int.mul_ediv_cancel_left _ (by omega)]
  have h2 : 0 < c * gcdI t l := by rw [Int.mul_comm, ← hc]; omega
  exact Int.pos_of_mul_pos_left h2 hg
/-- a fraction by its two quotients: t = g c, l = g d -/
theorem frac_split {t l : Int} (h : l ≠ 0) : ∃ g c d : Int, 0 < g ∧ t = g * c ∧ l = g * d ∧ ((0 < l ∧ fracT t l = c ∧ fracL t l = d) ∨ (l < 0 ∧ fracT t l = -c ∧ fracL t l = -d)) := by
  have hg := gcdI_pos (t := t) h
  obtain ⟨c, hc⟩ := gcdI_dvd_t t l
  obtain ⟨d, hd⟩ := gcdI_dvd_l t l
  have e1 : t / gcdI t l = c := by
    conv => lhs; lhs; rw [hc]
    exact Int.mul_ediv_cancel_left _ (by omega)
  have e2 : l / gcdI t l = d := by
    conv => lhs; lhs; rw [hd]
    exact Int.mul_ediv_cancel_left _ (by omega)
  refine ⟨gcdI t l, c, d, hg, hc, hd, ?_⟩
  rcases Int.lt_trichotomy l 0 with h1 | h1 | h1
  · refine .inr ⟨h1, ?_, ?_⟩
    · rw [← (frac_neg h1).1, fdiv_neg_dvd (gcdI_dvd_t t l), e1]
    · rw [← (frac_neg h1).2, fdiv_neg_dvd (gcdI_dvd_l t l), e2]
  · exact absurd h1 h
  · refine .inl ⟨h1, ?_, ?_⟩
    · rw [← (frac_pos h1).1, Int.fdiv_eq_ediv_of_dvd (gcdI_dvd_t t l), e1]
    · rw [← (frac_pos h1).2, Int.fdiv_eq_ediv_of_dvd (gcdI_dvd_l t l), e2]
theorem frac_cross {t l : Int} (h : l ≠ 0) : fracT t l * l = t * fracL t l := by
  obtain ⟨g, c, d, _, h1, h2, h3⟩ := frac_split (t := t) h
  rcases h3 with ⟨_, e1, e2⟩ | ⟨_, e1, e2⟩
  · rw [e1, e2]
    conv => lhs; rw [h2]
    conv => rhs; rw [h1]
    rw [Int.mul_left_comm, Int.mul_assoc]
  · rw [e1, e2]
    conv => lhs; rw [h2]
    conv => rhs; rw [h1]
    rw [Int.mul_left_comm, Int.neg_mul, Int.mul_neg, Int.mul_neg, Int.mul_assoc]
theorem fracT_le {t l : Int} (h : l ≠ 0) : (fracT t l).natAbs ≤ t.natAbs := by
  obtain ⟨g, c, d, hg, h1, h2, h3⟩ := frac_split (t := t) h
  have e : (fracT t l).natAbs = c.natAbs := by
    rcases h3 with ⟨_, e1, _⟩ | ⟨_, e1, _⟩
    · rw [e1]
    · rw [e1, Int.natAbs_neg]
  have e2 : t.natAbs = g.natAbs * c.natAbs := by
    conv => lhs; rw [h1]
    exact Int.natAbs_mul _ _
  rw [e, e2]
  exact Nat.le_mul_of_pos_left _ (by omega)
theorem fracL_le {t l : Int} (h : l ≠ 0) : (fracL t l).natAbs ≤ l.natAbs := by
  obtain ⟨g, c, d, hg, h1, h2, h3⟩ := frac_split (t := t) h
  have e : (fracL t l).natAbs = d.natAbs := by
    rcases h3 with ⟨_, _, e1⟩ | ⟨_, _, e1⟩
    · rw [e1]
    · rw [e1, Int.natAbs_neg]
  have e2 : l.natAbs = g.natAbs * d.natAbs := by
    conv => lhs; rw [h2]
    exact Int.natAbs_mul _ _
  rw [e, e2]
  exact Nat.le_mul_of_pos_left _ (by omega)
theorem fracT_zero {t l : Int} (h : l ≠ 0) : fracT t l = 0 ↔ t = 0 := by
  have hc := frac_cross (t := t) h
  have hL := fracL_pos (t := t) h
  constructor
  · intro z
    rw [z, Int.zero_mul] at hc
    rcases Int.mul_eq_zero.mp hc.symm with z | z
    · exact z
    · omega
  · intro z
    rw [z, Int.zero_mul] at hc
    rcases Int.mul_eq_zero.mp hc with z | z
    · rw [← z, ‹t = 0›]
    · exact absurd z h
theorem frac_neg_neg {t l : Int} (h : l ≠ 0) : fracT (-t) (-l) = fracT t l ∧ fracL (-t) (-l) = fracL t l := by
  have eg : gcdI (-t) (-l) = gcdI t l := by
    unfold gcdI
    rw [Int.natAbs_neg, Int.natAbs_neg]
  refine ⟨?_, ?_⟩
  · unfold fracT
    rw [eg]
    congr 1
    by_cases h1 : 0 < l
    · rw [if_pos h1, if_neg (by omega)]
      omega
    · rw [if_neg h1, if_pos (by omega)]
      omega
  · unfold fracL
    rw [eg, Int.natAbs_neg]
/-- T/L is not (T + L)/L, nor (2T + 1)/2L -/
theorem frac_other1 {T L : Int} (hL : 0 < L) : ¬ (T = fracT (T + L) L ∧ L = fracL (T + L) L) := by
  rintro ⟨h1, h2⟩
  have hc := frac_cross (t := T + L) (l := L) (by omega)
  rw [← h1, ← h2, Int.add_mul] at hc
  have : 0 < L * L := Int.mul_pos hL hL
  omega
theorem frac_other2 {T L : Int} (hL : 0 < L) : ¬ (T = fracT (T * 2 + 1) (L * 2) ∧ L = fracL (T * 2 + 1) (L * 2)) := by
  rintro ⟨h1, h2⟩
  have hc := frac_cross (t := T * 2 + 1) (l := L * 2) (by omega)
  rw [← h1, ← h2, Int.add_mul, Int.mul_assoc T 2 L, Int.mul_comm 2 L] at hc
  omega
/-! texts of numbers -/
theorem int_text_len {i : Int} (h : i.natAbs.log2 < 1920) : ((toString i : String) : Str).length ≤ 1921 := PyProof.Rows.int_text_len_1921 h
theorem int_text_low {i : Int} : ∀ c ∈ ((toString i : String) : Str).cps.toList, c < 128 := fun c hc => by
  rcases Nat.lt_or_ge c 128 with h | h
  · exact h
  · exact absurd hc (PyProof.Rows.int_text_free' c ⟨by omega, by omega⟩ i)
/-- a text whose repr has room -/
structure Small (y : Str) (n : Nat) : Prop where
  len : y.length ≤ n
  low : ∀ c ∈ y.cps.toList, c < 128
theorem Small.int {i : Int} (h : i.natAbs.log2 < 1920) : Small ((toString i : String) : Str) 1921 := ⟨int_text_len h, int_text_low⟩
theorem Small.app {x y : Str} {n m : Nat} (a : Small x n) (b : Small y m) : Small (x ++ y) (n + m) := by
  refine ⟨?_, fun c hc => ?_⟩
  · rw [strLen_append]
    exact Nat.add_le_add a.len b.len
  · rw [Str.cps_append, Array.toList_append] at hc
    rcases List.mem_append.mp hc with h | h
    · exact a.low c h
    · exact b.low c h
theorem Small.mono {x : Str} {n m : Nat} (a : Small x n) (h : n ≤ m) : Small x m := ⟨Nat.le_trans a.len h, a.low⟩
theorem Small.repr {y : Str} {n : Nat} (a : Small y n) (h : n ≤ 1000000) : (reprText y).length ≤ sizeLine := by
  have h1 := StrLaws.reprText_len y fun c hc => Nat.lt_of_lt_of_le (a.low c hc) (by decide)
  have h2 := a.len
  have h3 : sizeLine = 16777216 := rfl
  omega
theorem shaped_str {y : Str} {n : Nat} (a : Small y n) : SeqAt.shaped (.str y) = true := by
  have h : (PyData.str y).canLay0 = true := by
    show PySem.PyData.strOk y = true
    unfold PySem.PyData.strOk
    rw [Array.all_eq_true]
    intro j hj
    have := a.low y.cps[j] (by simp)
    exact decide_eq_true (by omega)
  unfold SeqAt.shaped
  rw [h]
  rfl
/-- a dict comprehension's turns over a list that stays -/
theorem dcW_list {K : PySem.W.Frag} {a : Addr} {xs : List V} {g : TG} {tt : TT} {tk tv : TE} {vs : List Nat} {σ : L2.St} {H1 : Hp} {D : Addr} {Qd : Hp → Prop} (Pv : Nat → Hp → Prop) (h0 : Pv 0 (L2.upd H1 D (.dK [])))
    (hl : ∀ i H, i ≤ xs.length → Pv i H → SqL K H a xs)
    (hs : ∀ i x H, xs[i]? = some x → Pv i H → g x (wipe σ vs) H fun σ2 H2 => wipe σ2 vs = wipe σ vs ∧ tt σ2 H2 fun b H3 =>
      if b = true then tk σ2 H3 fun y H4 => tv σ2 H4 fun z H5 => ∃ kvs k, y = kV k ∧ H5 D = some (.dK kvs) ∧ kvs.length < sizeLine ∧ Pv (i + 1) (L2.upd H5 D (.dK (putK kvs k z))) else Pv (i + 1) H3)
    (hd : ∀ H, Pv xs.length H → Qd H) :
    ∃ W : Nat → Nat → Hp → Prop, (∃ m, W 0 m (L2.upd H1 D (.dK []))) ∧ ∀ i m H, W i m H →
      ((Itl K a).stop i H ∧ Qd H) ∨ ((Itl K a).go i H ∧ ∃ Nx : Hp → Prop, (∀ H', Nx H' → ∃ m', m' < m ∧ W (i + 1) m' H') ∧ ∀ x H', (Itl K a).yld i H x H' → g x (wipe σ vs) H' fun σ2 H2 => wipe σ2 vs = wipe σ vs ∧ tt σ2 H2 fun b H3 =>
        if b = true then tk σ2 H3 fun y H4 => tv σ2 H4 fun z H5 => ∃ kvs k, y = kV k ∧ H5 D = some (.dK kvs) ∧ kvs.length < sizeLine ∧ Nx (L2.upd H5 D (.dK (putK kvs k z))) else Nx H3) := by
  refine ⟨fun i m H => m + i = xs.length ∧ Pv i H, ⟨xs.length, rfl, h0⟩, fun i m H w => ?_⟩
  obtain ⟨hm, hp⟩ := w
  have hq := hl i H (by omega) hp
  rcases Nat.lt_or_ge i xs.length with hlt | hge
  · refine .inr ⟨⟨xs, xs[i], hq, by simp [hlt]⟩, Pv (i + 1), fun H' hn => ⟨m - 1, by omega, by omega, hn⟩, fun x H' y => ?_⟩
    obtain ⟨e, y⟩ := y
    subst e
    exact hs i x _ (y xs hq) hp
  · obtain rfl : i = xs.length := by omega
    exact .inl ⟨⟨xs, hq, Nat.le_refl _⟩, hd H hp⟩
/-- sorted of a dict with text keys, by a name -/
def rSortN : List V → Hp → VK → Prop := fun xs H Q => ∃ (a : Addr) (kvs : List (Key × V)) (ks : List Str), xs = [.ref a] ∧ Rd H a (.dK kvs) ∧ kvs.map (·.1) = ks.map Sum.inr ∧ ks.length < 64 ∧ ∀ ys p, ys.Perm ks → sortedS ys = true → H p = none → Q (.ref p) (L2.upd H p (.lst (ys.map V.str)))
theorem cr_sortN {X : Cx} (hc : X.calm = true) : CallR X (.builtin "sorted") rSortN := call_sortedD hc
/-- {k: v for k in sorted(d) if ..} -/
theorem dc_sorted {K : PySem.W.Frag} {j : Nat} {d : Addr} {kvs : List (Key × V)} {ks : List Str} {g : TG} {tt : TT} {tk tv : TE} {vs : List Nat} {σ : L2.St} {H : Hp} {Q : VK} (hv : σ[j]? = some (some (.ref d))) (hd : H d = some (.dK kvs))
    (hk : kvs.map (·.1) = ks.map Sum.inr) (hn : ks.length < 64)
    (h : ∀ (ys : List Str) (s D : Addr) (H1 : Hp), ys.Perm ks → sortedS ys = true → Ext H H1 → H1 s = some (.lst (ys.map V.str)) → H1 D = none →
      ∃ Pv : Nat → Hp → Prop, Pv 0 (L2.upd H1 D (.dK [])) ∧ (∀ i H', Pv i H' → H' s = some (.lst (ys.map V.str))) ∧
        (∀ i x H', ys[i]? = some x → Pv i H' → g (.str x) (wipe σ vs) H' fun σ2 H2 => wipe σ2 vs = wipe σ vs ∧ tt σ2 H2 fun b H3 =>
          if b = true then tk σ2 H3 fun y H4 => tv σ2 H4 fun z H5 => ∃ kvs k, y = kV k ∧ H5 D = some (.dK kvs) ∧ kvs.length < sizeLine ∧ Pv (i + 1) (L2.upd H5 D (.dK (putK kvs k z))) else Pv (i + 1) H3) ∧
        (∀ H', Pv ys.length H' → Q (.ref D) H')) :
    tDc (iList K (tCB rSortN (tCons (tVar j) tNil))) g tt tk tv vs σ H Q := by
  refine ⟨_, hv, d, kvs, ks, rfl, .inl hd, hk, hn, fun ys s hp hs hsn => ⟨s, rfl, ⟨_, ofL upd_same⟩, fun D hD => ?_⟩⟩
  obtain ⟨Pv, h0, h1, h2, h3⟩ := h ys s D _ hp hs (Ext.upd hsn) upd_same hD
  refine dcW_list (a := s) (xs := ys.map V.str) Pv h0 (fun i H' _ p => ofL (h1 i H' p)) (fun i x H' hx p => ?_) (fun H' p => h3 H' (by rw [List.length_map] at p; exact p))
  rw [List.getElem?_map] at hx
  cases e : ys[i]? with
  | none => rw [e] at hx; cases hx
  | some y =>
    rw [e] at hx
    obtain rfl : x = V.str y := (Option.some.inj hx).symm
    exact h2 i y H' e p
end Own

set_option Elab.async false
set_option maxRecDepth 100000
set_option maxHeartbeats 4000000
set_option linter.all false
/-! Defs that are run where nothing is being shown (no repr of a list or tuple is under way): repr of data is then known. -/
namespace Own
open PySem PySem.Spec PyProof.Rows L2
/-- a promise that is kept where no repr is under way -/
structure FnG (P : Program) (w : World) (K : PySem.W.Frag) (mg : Str → Option Value) (base : Heap) (CX : CXT) (k : Nat) (f : Addr) (fd : FuncData) (ps : List Str) (sp : Sp) : Prop where
  len : ∀ vs H Q E, sp vs H Q E → vs.length = ps.length
  run : ∀ (A : Around) (outer : List Env) (s : Shared) (H : Hp) (args : Args) (us : List Value) (vs : List V) (Q : VK) (E : XK), A.guards = some [] → Room k A → Env0 P w K mg base A outer s H →
    BindsTo s fd args (ps.zip us) → Vals vs us → sp vs H Q E → codeAny (model P w) A (.call (.ref f) args) (CR CX outer P w H s Q E) s
section
variable {P : Program} {w : World} {K : PySem.W.Frag} {mg : Str → Option Value} {base : Heap} {CX : CXT} {k : Nat} {f : Addr} {fd : FuncData} {ps : List Str} {sp : Sp}
theorem FnG.of (F : FnOk P w K mg base CX k f fd ps sp) : FnG P w K mg base CX k f fd ps sp := ⟨F.len, fun A outer s H args us vs Q E _ => F.run A outer s H args us vs Q E⟩
/-- a def by its body, as fn_of: no repr is under way in the body either -/
theorem fn_ofG {name qual : Str} {params : Arguments} {body : List Stmt} {scope : Scope} {dV kV doc pm cdv ct oc : Value} {an od : Option Addr} {osl : Array (Option Value)} {N : List Str}
    (lk : K.lookup f = some ⟨oc, od, .func (PySem.W.fnOf name qual params body scope dV kV doc pm an cdv ct), osl⟩) (hcd : PySem.W.codeIn K cdv qual = true) (S : FnScope N ps scope) (len : ∀ vs H Q E, sp vs H Q E → vs.length = ps.length)
    (hbody : ∀ (A : Around) (outer : List Env) (s : Shared) (H : Hp) (vs : List V) (Q : VK) (E : XK), A.guards = some [] → Room k (A.deeper (envOfC qual scope s.heap.objs.size f cdv)) → sp vs H Q E →
      ∃ t, PSs (cxOf CX P w K mg base N qual scope f cdv A outer s H E) body t ∧ t { nx := fun _ H' => Q .non H', rt := Q } (L2.start N vs) H) :
    FnG P w K mg base CX (k + 1) f (PySem.W.fnOf name qual params body scope dV kV doc pm an cdv ct) ps sp := by
  constructor
  · exact len
  · intro A outer s H args us vs Q E hg hr e0 hb r hsp
    have hl : vs.length = ps.length := len vs H Q E hsp
    have sees : ∀ b o, base.get? b = some o → s.heap.get? b = some o := fun b o e => (e0.bs b o e).1
    have KX : K.In s.heap := e0.mod.kin.keeps sees
    have par : ∀ y ∈ ps.zip us, scope.names.lookup y.1 = some .local ∨ (scope.names.lookup y.1 = some .cell ∧ ((cellsFrom (s.heap.objs.size + 1) scope.names []).lookup y.1).isSome = true) := by
      rintro ⟨n, v⟩ hy
      have hn : n ∈ ps := (List.of_mem_zip hy).1
      cases S.par n hn with
      | inl q => exact .inl q
      | inr q => exact .inr ⟨q, PySem.W.cellsFrom_some _ _ _ (.inl q)⟩
    refine codeAny_call_function hr.depth (KX f _ lk) rfl S.co S.gen rfl (PySem.W.codeRec_of KX hcd) ?_
    refine hb _ _ _ _ (wpAny_newFunctionEnv_cells S.kind par ?_)
    intro env he s1 x
    subst he
    refine ⟨(e0.mod.nolimit.keeps sees).keeps x.toInCall.keep, codeAny_func ?_⟩
    obtain ⟨t, ht, hq⟩ := hbody A outer s H vs Q E hg (hr.deeper _) hsp
    refine wpAny_mono (ht.run [] s1 (L2.start N vs) H _ (inv_start S hr.hd e0 hl r x) hq) ?_ (fun e s' z => z)
    intro fl s' hs
    cases fl with
    | brk => exact hs.elim fun _ z => z.elim fun _ z => z.2.elim
    | cont => exact hs.elim fun _ z => z.elim fun _ z => z.2.elim
    | next =>
      obtain ⟨σ', H', J, q⟩ := hs
      exact ⟨V.non, H', J.os, J.bare, J.base, J.hok, rfl, q⟩
    | ret u =>
      obtain ⟨v, σ', H', J, rv, q⟩ := hs
      exact ⟨v, H', J.os, J.bare, J.base, J.hok, rv, q⟩
/-- the same for a def of the text that lets nothing out -/
theorem okG {x qual : Str} {st : Stmt} {N : List Str} (F : Fun K x qual st f fd) (S : FnScope N ps (defScope st)) (len : ∀ vs H Q E, sp vs H Q E → vs.length = ps.length)
    (hbody : ∀ (cdv : Value) (A : Around) (outer : List Env) (s : Shared) (H : Hp) (vs : List V) (Q : VK) (E : XK), A.guards = some [] → Room k (A.deeper (envOfC qual (defScope st) s.heap.objs.size f cdv)) → sp vs H Q E →
      ∃ t, PSs (cxOf CX0 P w K mg base N qual (defScope st) f cdv A outer s H E).nox (defBody st) t ∧ t { nx := fun _ H' => Q .non H', rt := Q } (L2.start N vs) H) : FnG P w K mg base CX0 (k + 1) f fd ps sp := by
  obtain ⟨oc, od, kV, doc, pm, an, cdv, ct, osl, rfl, lk, hcd⟩ := F.ex
  refine fn_ofG lk hcd S len fun A outer s H vs Q E hg hr hsp => ?_
  obtain ⟨t, h, q⟩ := hbody cdv A outer s H vs Q E hg hr hsp
  exact ⟨t, h.nox, q⟩
end
section
variable {X : Cx} {CX : CXT} {k : Nat} {f : Addr} {fd : FuncData} {ps : List Str} {sp : Sp} {E : XK} {x : Str} {p pos : Pos} {e : Expr} {es : List Expr} {t : TA}
/-- f(e, ..) of such a def, from a body in which no repr is under way -/
theorem pe_callG (F : FnG X.prog X.w X.K X.mg X.base CX k f fd ps sp) (hgd : X.A.guards = some []) (hr : Room k X.A) (hg : Gl X x) (hm : X.mg x = some (.ref f)) (hk : PySem.W.keepIn X.K (.ref f) = true) (hb : Binds X.K fd ps []) (hx : Passes CX X E)
    (ha : PA X (e :: es) t) (hdb : (x == ("__debug__" : Str)) = false := by decide) (he : starEach (e :: es) X.env = (false, eval e X.env) :: starEach es X.env := by rfl) (hpl : (backTo pos (starEach es X.env)).any (·.1) = false := by rfl) :
    PE X (.Call (.Name x p) (e :: es) [] pos) (tCall sp [] E t) := by
  constructor
  intro pins s σ H Q I h
  have args := ha.run pos pins s σ H _ I h
  refine wpAny_Call_Name_kw (ld_glob I hg hm ?_ hdb)
  refine PySem.W.callWith_K (h₀ := X.base) I.ok.mod.kin hk (thn args ?_) he hpl
  rintro us s1 ⟨vs, H1, I1, r, q⟩
  refine ⟨I1.kIn, ?_⟩
  rw [List.append_nil] at q
  have hl : (us ++ []).length = ps.length := by rw [List.append_nil, ← r.length]; exact F.len _ _ _ _ q
  have hb2 := hb s1 us I1.kIn hl
  rw [List.append_nil] at hb2
  refine wpAny_call (codeAny_mono (F.run X.A X.stack s1 H1 ⟨us, []⟩ us vs Q E hgd hr I1.env0 hb2 r q) ?_)
  intro z s' hq
  match z, hq with
  | .error e, hq => exact hx pins σ H1 s1 e s' I1 hq
  | .ok (.ret u), hq => exact I1.after hq
  | .ok .next, hq => exact hq.elim
  | .ok .brk, hq => exact hq.elim
  | .ok .cont, hq => exact hq.elim
/-- repr of data: lists, tuples, ints, texts -/
def rReprD (K : PySem.W.Frag) : List V → Hp → VK → Prop := fun vs H Q => ∃ x d, vs = [x] ∧ Dp K H x d ∧ d.showable = true ∧ d.hasDict = false ∧ d.depth ≤ 32 ∧ d.shown.length ≤ sizeLine ∧ Q (.str d.shown) H
end

section
variable {X : Cx}
theorem call_reprD (hgd : X.A.guards = some []) (hr : Room 1 X.A) : CallR X (.builtin "repr") (rReprD X.K) := by
  intro pins s σ H xs us Q I r h
  obtain ⟨x, d, rfl, hd, h1, h2, h3, h4, q⟩ := h
  obtain ⟨u, rfl, ru⟩ := vals1 r
  obtain ⟨as, rd⟩ := Dp.reads I d x u hd ru
  have hu : X.A.units + (d.depth + 1) < cLine := by
    have := hr.units
    omega
  cases hd with
  | non =>
    cases (show u = Value.none from ru)
    exact PySem.P.repr_of_none ⟨.str _, H, I.tok _, ⟨_, rfl⟩, q⟩
  | bl b =>
    cases (show u = Value.bool b from ru)
    exact PySem.P.repr_of_bool ⟨.str _, H, I.tok _, ⟨_, rfl⟩, q⟩
  | int i =>
    obtain ⟨t, rfl⟩ := (show ∃ t, u = Value.int i t from ru)
    exact PySem.P.repr_of_int (of_decide_eq_true h1) ⟨.str _, H, I.tok _, ⟨_, rfl⟩, q⟩
  | str y =>
    obtain ⟨t, rfl⟩ := (show ∃ t, u = Value.str y t from ru)
    exact PySem.P.repr_of_str ⟨.str _, H, I.tok _, ⟨_, rfl⟩, q⟩ h4
  | @lst a xs ds hs ha =>
    cases (show u = Value.ref a from ru)
    exact PySem.repr_of_reads' rd h1 (PyData.noDict_hsm h2) hgd hu (fun _ _ e => e) (fun h' v tk hk => ⟨.str _, H, I.kept hk, ⟨_, rfl⟩, q⟩) h4
  | @tup a xs ds hs ha =>
    cases (show u = Value.ref a from ru)
    exact PySem.repr_of_reads' rd h1 (PyData.noDict_hsm h2) hgd hu (fun _ _ e => e) (fun h' v tk hk => ⟨.str _, H, I.kept hk, ⟨_, rfl⟩, q⟩) h4
end
/-- data that holds no dict is no dict -/
theorem ty_data {K : PySem.W.Frag} {H : Hp} {y : V} {d : PyData} (h : Dp K H y d) : ∃ n, TyX K H y (.type n) ∧ kitB n "dict" = some false := by
  cases h with
  | non => exact ⟨_, .base .non, by decide +kernel⟩
  | bl b => exact ⟨_, .base (.bl b), by decide +kernel⟩
  | int i => exact ⟨_, .base (.int i), by decide +kernel⟩
  | str x => exact ⟨_, .base (.str x), by decide +kernel⟩
  | @lst a xs ds hs _ =>
    rcases hs with (hs | ⟨o, hs⟩) | hs
    · exact ⟨_, .base (.lst hs), by decide +kernel⟩
    · exact ⟨_, .base (.frz hs), by decide +kernel⟩
    · obtain ⟨o, its, n, hk, hc, _⟩ := hs
      exact ⟨_, .kList hk hc, by decide +kernel⟩
  | @tup a xs ds hs _ =>
    rcases hs with (hs | ⟨o, hs⟩) | hs
    · exact ⟨_, .base (.tup hs), by decide +kernel⟩
    · exact ⟨_, .fTuple hs, by decide +kernel⟩
    · obtain ⟨o, its, n, hk, hc, _⟩ := hs
      exact ⟨_, .kTuple hk hc, by decide +kernel⟩
/-! the law's own call: nothing is being shown when it begins -/
theorem ints_vals {vs : List Value} {ns : List Int} (h : IntsAre vs ns) : Vals (ns.map V.int) vs := vals_ints h
theorem law_runG {P : Program} {w : World} {K : PySem.W.Frag} {mg mb : Str → Option Value} {CX : CXT} {k : Nat} {fa a : Addr} {fd : FuncData} {x : Str} {sp : Sp} {s₁ : Shared} {vs : List Value} {H : Hp}
    (hO : Only H) (hA : ∀ b, H b ≠ none → b = a) (hKa : H a ≠ none → K.lookup a = none) (hok : HOk P w H s₁.heap)
    (KX : K.In s₁.heap) (hns : s₁.heap.Ns mainGlobals mg) (hb : s₁.heap.Ns builtinsNs mb) (hbb : ∀ x : Str, x ≠ "__name__" → mb x = bootBuiltins x) (hlim : s₁.heap.NoLimit) (hg : s₁.gens = #[])
    (ha : s₁.heap.get? a = some { cls := .type "list", data := .seq vs.toArray }) (hr : Room k callerA)
    (F : ∀ base : Heap, K.In base → base.Ns mainGlobals mg → FnG P w K mg base CX k fa fd [x] sp) (hbind : ∀ (s : Shared) (u : Value), BindsTo s fd ⟨[u], []⟩ [(x, u)])
    (hsp : sp [.ref a] H (fun v _ => v = .bl true) fun _ _ _ => False) (hCX : ∀ e s', CX [] H s₁ (fun _ _ _ => False) e s' → False) :
    codeAny (model P w) callerA (.call (.ref fa) ⟨[.ref a], []⟩) (fun r s' => r = .ok (.ret (.bool true)) ∧ OldK s₁.heap s'.heap ∧ s'.os = s₁.os ∧ AllBare s'.gens) s₁ := by
  have free : ∀ b, b ≠ a → H b = none := fun b hne => Classical.byContradiction fun z => hne (hA b z)
  have notA : ∀ {o : Obj} {es : Array DictEntry} {ep : Nat} {b : Addr}, s₁.heap.get? b = some o → o.data = .dict es ep → b ≠ a := by
    intro o es ep b e d z
    rw [z, ha] at e
    rw [← Option.some.inj e] at d
    cases d
  have inBase : ∀ {b : Addr} {m : Str → Option Value}, s₁.heap.Ns b m → (hidT s₁.heap H).Ns b m := by
    rintro b m ⟨o, es, ep, e, d, r⟩
    exact ⟨o, es, ep, hidT_get e (free b (notA e d)), d, r⟩
  have KB : K.In (hidT s₁.heap H) := by
    intro b o e
    refine hidT_get (KX b o e) (Classical.byContradiction fun z => ?_)
    have := hKa ((hA b z) ▸ z)
    rw [← hA b z, e] at this
    cases this
  obtain ⟨mc, l1, l2⟩ := hlim
  have M : Mod K mg (hidT s₁.heap H) := ⟨KB, inBase hns, ⟨mb, inBase hb, hbb⟩, ⟨mc, inBase l1, l2⟩⟩
  have none_in : ∀ b, b ∉ ([] : List Addr) := fun b => List.not_mem_nil
  have e0 : Env0 P w K mg (hidT s₁.heap H) callerA [] s₁ H := ⟨rfl, M, fun b o e => of_hidT e, Nat.le_of_eq (hidT_size _ _), trivial, fun b z => absurd z (none_in b), hok, .of_eq hg⟩
  have run := (F _ KB (inBase hns)).run callerA [] s₁ H ⟨[.ref a], []⟩ [.ref a] [.ref a] _ _ rfl hr e0 (hbind s₁ (.ref a)) (.cons rfl .nil) hsp
  refine codeAny_mono run ?_
  intro r s' h
  match r, h with
  | .error e, h => exact (hCX e s' h).elim
  | .ok .next, h => exact h.elim
  | .ok .brk, h => exact h.elim
  | .ok .cont, h => exact h.elim
  | .ok (.ret u), h =>
    obtain ⟨v, H', os, bare, un, hok', rv, rfl⟩ := h
    obtain rfl : u = Value.bool true := rv
    refine ⟨rfl, OldK.of_keep ?_, os, bare⟩
    intro b o e
    cases q : H b with
    | none => exact un.keep b o e q (none_in b) (none_in b)
    | some y =>
      rcases hO b with z | ⟨ob, xs, z⟩
      · rw [q] at z
        cases z
      · have k1 := (hok b _ z).1
        have k2 := (hok' b _ (un.frzs b ob _ z)).1
        rw [e] at k1
        rw [Option.some.inj k1]
        exact k2
theorem law_callG {P : Program} {w : World} {K : PySem.W.Frag} {mg mb : Str → Option Value} {CX : CXT} {k : Nat} {fa a : Addr} {fd : FuncData} {x : Str} {sp : Sp} {s₁ : Shared} {vs : List Value} {ns : List Int}
    (KX : K.In s₁.heap) (hns : s₁.heap.Ns mainGlobals mg) (hb : s₁.heap.Ns builtinsNs mb) (hbb : ∀ x : Str, x ≠ "__name__" → mb x = bootBuiltins x) (hlim : s₁.heap.NoLimit) (hg : s₁.gens = #[])
    (ha : s₁.heap.get? a = some { cls := .type "list", data := .seq vs.toArray }) (hi : IntsAre vs ns) (hl : ns.length ≤ sizeLine) (hr : Room k callerA)
    (F : ∀ base : Heap, K.In base → base.Ns mainGlobals mg → FnG P w K mg base CX k fa fd [x] sp) (hbind : ∀ (s : Shared) (u : Value), BindsTo s fd ⟨[u], []⟩ [(x, u)])
    (hsp : ∀ H : Hp, Only H → SqL K H a (ns.map V.int) → sp [.ref a] H (fun v _ => v = .bl true) fun _ _ _ => False) (hCX : ∀ H e s', CX [] H s₁ (fun _ _ _ => False) e s' → False) :
    codeAny (model P w) callerA (.call (.ref fa) ⟨[.ref a], []⟩) (fun r s' => r = .ok (.ret (.bool true)) ∧ OldK s₁.heap s'.heap ∧ s'.os = s₁.os ∧ AllBare s'.gens) s₁ := by
  have rv := ints_vals hi
  have lv : vs.length = ns.length := hi.length
  cases hk : K.lookup a with
  | some o =>
    have e := KX a o hk
    rw [ha] at e
    obtain rfl := Option.some.inj e
    have hO : Only (fun _ => none) := fun _ => .inl rfl
    have hok : HOk P w (fun _ => none) s₁.heap := fun b u z => by cases (show (none : Option HO) = some u from z)
    exact law_runG hO (fun b z => absurd rfl z) (fun z => absurd rfl z) hok KX hns hb hbb hlim hg ha hr F hbind
      (hsp _ hO (.inr ⟨_, vs.toArray, _, hk, rfl, rfl, rfl, by rw [List.size_toArray, lv]; exact hl, by simpa using rv⟩)) (hCX _)
  | none =>
    let H0 : Hp := fun b => if b = a then some (.frz { cls := .type "list", data := .seq vs.toArray } (.lst (ns.map V.int))) else none
    have at_a : H0 a = some (.frz { cls := .type "list", data := .seq vs.toArray } (.lst (ns.map V.int))) := if_pos rfl
    have off : ∀ b, b ≠ a → H0 b = none := fun b hne => if_neg hne
    have hO : Only H0 := fun b => by
      by_cases e : b = a
      · exact .inr ⟨_, _, e ▸ at_a⟩
      · exact .inl (off b e)
    have hA : ∀ b, H0 b ≠ none → b = a := fun b z => Classical.byContradiction fun e => z (off b e)
    have hok : HOk P w H0 s₁.heap := fun b u z => by
      have e : b = a := hA b (by rw [z]; simp)
      subst e
      rw [at_a] at z
      obtain rfl := Option.some.inj z
      exact ⟨ha, by rw [List.length_map]; exact hl, vs, _, rv, ha⟩
    exact law_runG hO hA (fun _ => hk) hok KX hns hb hbb hlim hg ha hr F hbind (hsp H0 hO (.inl (.inr ⟨_, at_a⟩))) (hCX _)
theorem walk_ofG {l : PySem.W.OpenLaw} {n k : Nat} {q : Program} {loose : List Str} {XP : (Str → Option Value) → Heap → Prop} {YP : World → Heap → Prop} {d : DefRec} {K : Params → PySem.W.Frag} {CX : World → CXT} {sp : World → Sp} {x : Str}
    (hn : l.most = some n) (hn2 : n ≤ sizeLine) (hdf : d.params.defaults = []) (hr : Room k callerA) (hY : ∀ (w : World) (h : Heap), YP w h → (K w.params).In h)
    (F : ∀ (w : World) (mg : Str → Option Value) (fa : Addr) (h : Heap), (K w.params).In h → h.Ns mainGlobals mg → mg d.name = some (.ref fa) →
      ∃ fd : FuncData, (∀ (s : Shared) (u : Value), BindsTo s fd ⟨[u], []⟩ [(x, u)]) ∧ ∀ base : Heap, (K w.params).In base → base.Ns mainGlobals mg → FnG l.prog w (K w.params) mg base (CX w) k fa fd [x] (sp w))
    (hsp : ∀ (w : World) (H : Hp) (a : Addr) (ns : List Int), ns.length ≤ n → Only H → SqL (K w.params) H a (ns.map V.int) → sp w [.ref a] H (fun v _ => v = .bl true) fun _ _ _ => False)
    (hCX : ∀ (w : World) (H : Hp) (s : Shared) (e : Value) (s' : Shared), CX w [] H s (fun _ _ _ => False) e s' → False) :
    PySem.W.WalkO q loose XP YP l.row.toRowW d [] (fun f vs => PySem.call f vs) := by
  refine Att.attach_call hn hdf ?_
  intro w s₀ s₁ mg mb fa o pm cd doc a vs ns G Y ho hd hcd hmg hobj hints hlen hg
  have KX := hY w _ Y
  obtain ⟨fd, hb, hF⟩ := F w mg fa _ KX G.T.g hmg
  exact law_callG KX G.T.g G.T.b G.T.builtins G.T.nolimit hg hobj hints (Nat.le_trans hlen hn2) hr hF hb (fun H hO hS => hsp w H a ns hlen hO hS) (fun H e s' => hCX w H s₁ e s')
end Own

set_option Elab.async false
set_option maxRecDepth 100000
set_option maxHeartbeats 4000000
set_option linter.all false
/-! comprehensions by walks; names -/
namespace Own
open PySem PySem.Spec PyProof.Rows L2
theorem tLc_i {wi : TI} {g : TG} {tt : TT} {te : TE} {vs : List Nat} {σ : L2.St} {H H1 : Hp} {Q : VK} {J : It} {n : Nat} {G : Hp → Prop} {Y : Nat → Hp → V → Hp → Prop} (hwi : ∀ R : It → Hp → Prop, R J H1 → wi σ H R) (w : Walk J n G Y)
    (h : ∀ D, H1 D = none → ∃ Pv : Nat → Hp → Prop, Pv 0 (L2.upd H1 D (.lst [])) ∧ (∀ i H, i ≤ n → Pv i H → G H) ∧
      (∀ i x H H', i < n → Pv i H → Y i H x H' → g x (wipe σ vs) H' fun σ2 H2 => wipe σ2 vs = wipe σ vs ∧ tt σ2 H2 fun b H3 =>
        if b = true then te σ2 H3 fun y H4 => ∃ acc, H4 D = some (.lst acc) ∧ acc.length < sizeLine ∧ Pv (i + 1) (L2.upd H4 D (.lst (acc ++ [y]))) else Pv (i + 1) H3) ∧
      (∀ H, Pv n H → Q (.ref D) H)) : tLc wi g tt te vs σ H Q :=
  hwi _ fun D hD => by
    obtain ⟨Pv, h0, hG, hs, hd⟩ := h D hD
    exact lc_it w Pv h0 hG hs hd
theorem tFor_i {wi : TI} {g : TG} {tb : TS} {D : Ends} {σ : L2.St} {H H1 : Hp} {J : It} {n : Nat} {G : Hp → Prop} {Y : Nat → Hp → V → Hp → Prop} (hwi : ∀ R : It → Hp → Prop, R J H1 → wi σ H R) (w : Walk J n G Y)
    (Pv : Nat → L2.St → Hp → Prop) (h0 : Pv 0 σ H1) (hG : ∀ i σ H, i ≤ n → Pv i σ H → G H)
    (hs : ∀ i x σ H H', i < n → Pv i σ H → Y i H x H' → g x σ H' fun σ2 H2 => tb { D with nx := Pv (i + 1), ct := Pv (i + 1), bk := D.nx } σ2 H2) (hd : ∀ σ H, Pv n σ H → D.nx σ H) : tFor wi g tb D σ H :=
  hwi _ (for_it w Pv h0 hG hs hd)
/-! ### texts of small letters -/
def Low (c : Nat) : Prop := 97 ≤ c ∧ c ≤ 122
/-- a text of n letters a to z -/
structure Let (z : Str) (n : Nat) : Prop where
  len : z.length = n
  low : ∀ c ∈ z.cps.toList, Low c
theorem len_list (z : Str) : z.length = z.cps.toList.length := by simp [Str.length]
theorem Let.app {x y : Str} {n m : Nat} (a : Let x n) (b : Let y m) : Let (x ++ y) (n + m) := by
  refine ⟨?_, fun c hc => ?_⟩
  · rw [strLen_append, a.len, b.len]
  · rw [Str.cps_append, Array.toList_append] at hc
    rcases List.mem_append.mp hc with h | h
    · exact a.low c h
    · exact b.low c h
theorem Let.one {c : Nat} (h : Low c) : Let ⟨#[c]⟩ 1 := ⟨rfl, fun d hd => by
  have : d = c := by simpa using hd
  exact this ▸ h⟩
theorem Let.small {z : Str} {n : Nat} (a : Let z n) : Small z n := ⟨Nat.le_of_eq a.len, fun c hc => by have := a.low c hc; unfold Low at this; omega⟩
theorem Let.cut {z : Str} {n : Nat} (a : Let z n) (k : Nat) : Let (cutS z none (some (k : Int))) (min k n) ∧ Let (cutS z (some (k : Int)) none) (n - min k n) := by
  have e : z.cps.toList.length = n := by rw [← len_list]; exact a.len
  refine ⟨⟨?_, fun c hc => ?_⟩, ⟨?_, fun c hc => ?_⟩⟩
  · rw [len_list]
    show (((z.cps.toList.drop 0).take (HT.sIx z.length z.length (some (k : Int)) - 0)).toArray.toList).length = _
    rw [HT.sIx_nat, a.len, List.drop_zero]
    simp only [List.length_take, e]
    omega
  · unfold cutS at hc
    exact a.low c (List.mem_of_mem_drop (List.mem_of_mem_take hc))
  · rw [len_list]
    show (((z.cps.toList.drop (HT.sIx z.length 0 (some (k : Int)))).take (z.length - HT.sIx z.length 0 (some (k : Int)))).toArray.toList).length = _
    rw [HT.sIx_nat, a.len]
    simp only [List.length_take, List.length_drop, e]
    omega
  · unfold cutS at hc
    exact a.low c (List.mem_of_mem_drop (List.mem_of_mem_take hc))
/-- the twenty-six letters -/
abbrev abc : Str := Str.ofString "abcdefghijklmnopqrstuvwxyz"
theorem abc_list : abc.cps.toList = List.range' 97 26 := by decide +kernel
theorem abc_at {k : Int} (h0 : 0 ≤ k) (h1 : k < 26) : atI abc.cps.toList k = some (97 + k.toNat) ∧ Low (97 + k.toNat) := by
  obtain ⟨v, e1, e2⟩ := atI_lt (xs := abc.cps.toList) h0 (by rw [abc_list, List.length_range']; omega)
  rw [abc_list, List.getElem?_range' (by omega)] at e1
  refine ⟨?_, by unfold Low; omega⟩
  rw [e2, ← e1, Nat.one_mul]
theorem Let.nil : Let Str.empty 0 := ⟨rfl, fun c hc => by simp [Str.empty] at hc⟩
theorem join_let' : ∀ (ys : List Str), (∀ y ∈ ys, Let y 1) → Let (Str.join Str.empty ys) ys.length
  | [], _ => Let.nil
  | [x], h => h x List.mem_cons_self
  | x :: z :: r, h => by
    have ih := join_let' (z :: r) fun y hy => h y (List.mem_cons_of_mem _ hy)
    have hx := h x List.mem_cons_self
    have e : Str.join Str.empty (x :: z :: r) = x ++ Str.empty ++ Str.join Str.empty (z :: r) := rfl
    rw [e]
    have := (hx.app Let.nil).app ih
    rw [show (x :: z :: r).length = 1 + 0 + (z :: r).length by simp only [List.length_cons]; omega]
    exact this
theorem join_let (ys : List Str) (h : ∀ y ∈ ys, Let y 1) : Let (PySem.Txt.join Str.empty ys) ys.length := by
  rw [TL.join_eq]
  exact join_let' ys h
/-- sep.join(list of texts), by a name -/
def rJoinN (K : PySem.W.Frag) : V → List V → Hp → VK → Prop := fun x xs H Q => ∃ a p, ∃ ys : List Str, x = .str a ∧ xs = [.ref p] ∧ (SqL K H p (ys.map V.str) ∨ SqT K H p (ys.map V.str)) ∧ (ys.map (·.length)).sum + ys.length * a.length ≤ 16777216 ∧ Q (.str (PySem.Txt.join a ys)) H
theorem pe_joinN {X : Cx} {o e : Expr} {to te : TE} {apos pos : Pos} (ho : PE X o to) (he : PE X e te) (hs : starEach [e] X.env = [(false, eval e X.env)] := by rfl) (hbase : attributeBase o "join" X.env (eval o X.env) = eval o X.env := by rfl) (hline : (apos.endLine == pos.line) = true := by rfl) :
    PE X (.Call (.Attribute o "join" apos) [e] [] pos) (tM1 (rJoinN X.K) to te) := pe_join ho he hs hbase hline
/-! rules within a comprehension's block: the written part by its own name -/
section
variable {X : Cx} {K : PySem.W.Frag}
theorem inK (h : X.K = K) : OpR X (compareOp .In) (rIn K false) := h ▸ op_in_seq
theorem notInK (h : X.K = K) : OpR X (compareOp .NotIn) (rIn K true) := h ▸ op_notIn_seq
theorem ixLK (h : X.K = K) : IxR X (rIxL K) := h ▸ ix_list
theorem ixTK (h : X.K = K) : IxR X (rIxT K) := h ▸ ix_tup
theorem slLK (h : X.K = K) : SlR X (rSlL K) := h ▸ sl_list
theorem isiK (h : X.K = K) : CallR X (.builtin "isinstance") (rIsi K) := h ▸ call_isi
theorem fldK {e : Expr} {ta : TE} {f : Str} {pos : Pos} (h : X.K = K) (he : PE X e ta) (hb : attributeBase e f X.env (eval e X.env) = eval e X.env) : PE X (.Attribute e f pos) (tFld K ta f) := h ▸ pe_fld he hb
end
/-! a text among texts -/
theorem in_strs {z : Str} {zs : List Str} : inV (.str z) (zs.map V.str) = true ↔ z ∈ zs := by
  unfold inV
  rw [List.any_map, List.any_eq_true]
  constructor
  · rintro ⟨y, hy, e⟩
    have e : eqV (.str y) (.str z) = true := e
    have : y = z := by simpa [eqV] using e
    exact this ▸ hy
  · exact fun h => ⟨z, h, by simp [eqV]⟩
theorem flat_strs (zs : List Str) : (zs.map V.str).all flatV = true := by
  rw [List.all_map, List.all_eq_true]
  exact fun _ _ => rfl
/-- the spare names -/
def cand (c t : Nat) : Str := ⟨#[122, c, 105 + t]⟩
theorem cand_let {c t : Nat} (hc : Low c) (ht : t < 12) : Let (cand c t) 3 := ⟨rfl, fun d hd => by
  have hd : d = 122 ∨ d = c ∨ d = 105 + t := by simpa [cand] using hd
  unfold Low at hc ⊢
  omega⟩
theorem cands_nd (c : Nat) : ((List.range 12).map (cand c)).Nodup := by
  rw [List.nodup_iff_pairwise_ne, List.pairwise_map]
  refine (List.nodup_range (n := 12)).imp ?_
  intro i j hne e
  have : 105 + i = 105 + j := by
    have := congrArg (fun z : Str => z.cps[2]?) e
    simpa [cand] using this
  omega
/-! ### the pigeons -/
theorem nodup_le {α : Type} [DecidableEq α] : ∀ {l m : List α}, l.Nodup → (∀ x ∈ l, x ∈ m) → l.length ≤ m.length
  | [], _, _, _ => Nat.zero_le _
  | x :: l, m, hn, h => by
    have hx : x ∈ m := h x List.mem_cons_self
    have hn' := List.nodup_cons.mp hn
    have ih := nodup_le (l := l) (m := m.erase x) hn'.2 fun y hy => (List.mem_erase_of_ne (fun e : y = x => hn'.1 (e ▸ hy))).mpr (h y (List.mem_cons_of_mem _ hy))
    rw [List.length_erase_of_mem hx] at ih
    have := List.length_pos_of_mem hx
    rw [List.length_cons]
    omega
abbrev tails : Str := Str.ofString "ijklmnopqrst"
theorem tails_size : tails.cps.size = 12 := by decide +kernel
theorem tails_list : tails.cps.toList = List.range' 105 12 := by decide +kernel
theorem tails_at {i c : Nat} (h : tails.cps[i]? = some c) : i < 12 ∧ c = 105 + i := by
  rw [← Array.getElem?_toList, tails_list] at h
  have hi := (List.getElem?_eq_some_iff.mp h).1
  rw [List.length_range'] at hi
  rw [List.getElem?_range' hi] at h
  exact ⟨hi, by have := Option.some.inj h; omega⟩
theorem cand_app (c t : Nat) : (Str.ofString "z" ++ (⟨#[c]⟩ : Str)) ++ (⟨#[t]⟩ : Str) = ⟨#[122, c, t]⟩ := by
  have e : Str.ofString "z" = ⟨#[122]⟩ := by decide +kernel
  rw [e]
  rfl
/-- some spare name is not taken -/
theorem cand_free {zs : List Str} {c : Nat} (h : zs.length < 12) : ¬ ∀ t, t < 12 → cand c t ∈ zs := fun z => by
  have := nodup_le (cands_nd c) fun x hx => by
    obtain ⟨t, ht, e⟩ := List.mem_map.mp hx
    exact e ▸ z t (List.mem_range.mp ht)
  rw [List.length_map, List.length_range] at this
  omega
/-! written tuples -/
def SqtK (K : PySem.W.Frag) (p : Addr) (xs : List V) : Prop := ∃ (o : Obj) (its : Array Value) (n : Nat), K.lookup p = some o ∧ o.cls = .type "tuple" ∧ o.data = .seq its n ∧ its.size ≤ sizeLine ∧ Vals xs its.toList
theorem SqtK.sq {K : PySem.W.Frag} {p : Addr} {xs : List V} (h : SqtK K p xs) (H : Hp) : SqT K H p xs := .inr h
/-! rows of names and numbers -/
/-- a row's cell -/
abbrev rowH (r : Str × Int) : HO := .tup [.str r.1, .int r.2]
def RowsIn (H : Hp) (ts : List Addr) (rs : List (Str × Int)) : Prop := Paired (fun t r => H t = some (rowH r)) ts rs
def RowsAt (H : Hp) (p : Addr) (rs : List (Str × Int)) : Prop := ∃ ts : List Addr, H p = some (.lst (ts.map V.ref)) ∧ RowsIn H ts rs
theorem pmono {α β : Type} {F G : α → β → Prop} (h : ∀ x y, F x y → G x y) : ∀ {xs : List α} {ys : List β}, Paired F xs ys → Paired G xs ys
  | _, _, .nil => .nil
  | _, _, .cons a b => .cons (h _ _ a) (pmono h b)
theorem RowsIn.ext {H H' : Hp} {ts : List Addr} {rs : List (Str × Int)} (h : RowsIn H ts rs) (e : Ext H H') : RowsIn H' ts rs := pmono (fun _ _ z => e _ _ z) h
theorem RowsAt.ext {H H' : Hp} {p : Addr} {rs : List (Str × Int)} (h : RowsAt H p rs) (e : Ext H H') : RowsAt H' p rs := by
  obtain ⟨ts, h1, h2⟩ := h
  exact ⟨ts, e _ _ h1, h2.ext e⟩
/-- another list is written -/
theorem RowsIn.upd {H : Hp} {q : Addr} {xs : List V} {u : HO} {ts : List Addr} {rs : List (Str × Int)} (h : RowsIn H ts rs) (hq : H q = some (.lst xs)) : RowsIn (L2.upd H q u) ts rs := pmono (fun t r z => by
  by_cases e : t = q
  · rw [e, hq] at z
    cases z
  · rw [upd_ne e]
    exact z) h
theorem RowsIn.len {H : Hp} {ts : List Addr} {rs : List (Str × Int)} (h : RowsIn H ts rs) : ts.length = rs.length := Paired.length h
theorem RowsIn.get {H : Hp} : ∀ {ts : List Addr} {rs : List (Str × Int)} {i : Nat} {t : Addr}, RowsIn H ts rs → ts[i]? = some t → ∃ r, rs[i]? = some r ∧ H t = some (rowH r)
  | _, _, _, _, .nil, e => by simp at e
  | _, _, 0, _, .cons a _, e => by
    cases (Option.some.inj e)
    exact ⟨_, rfl, a⟩
  | _, _, i + 1, _, .cons _ b, e => RowsIn.get (i := i) b (by simpa using e)
theorem RowsIn.snoc {H : Hp} {ts : List Addr} {rs : List (Str × Int)} {t : Addr} {r : Str × Int} (h : RowsIn H ts rs) (e : H t = some (rowH r)) : RowsIn H (ts ++ [t]) (rs ++ [r]) := Paired.snoc h e
def rowD (r : Str × Int) : PyData := .tuple [.str r.1, .int r.2]
theorem RowsIn.dp {K : PySem.W.Frag} {H : Hp} : ∀ {ts : List Addr} {rs : List (Str × Int)}, RowsIn H ts rs → DpAll K H (ts.map V.ref) (rs.map rowD)
  | _, _, .nil => .nil
  | _, _, .cons a b => .cons (.tup (ofT a) (.cons (.str _) (.cons (.int _) .nil))) (RowsIn.dp b)
theorem RowsAt.dp {K : PySem.W.Frag} {H : Hp} {p : Addr} {rs : List (Str × Int)} (h : RowsAt H p rs) : Dp K H (.ref p) (.list (rs.map rowD)) := by
  obtain ⟨ts, h1, h2⟩ := h
  exact .lst (ofL h1) h2.dp
end Own

set_option Elab.async false
set_option maxRecDepth 100000
set_option maxHeartbeats 4000000
set_option linter.all false
/-! data that may be held against itself and shown -/
namespace Own
open PySem PySem.Spec PyProof.Rows L2
/-- what _law_same may be asked of -/
structure Neat (d : PyData) : Prop where
  lay : d.canLay0 = true
  show_ : d.showable = true
  deep : d.depth ≤ 32
  len : d.shown.length ≤ sizeLine
theorem Neat.shaped {d : PyData} (h : Neat d) : SeqAt.shaped d = true := by
  unfold SeqAt.shaped
  rw [h.lay, Bool.true_and]
  exact decide_eq_true (Nat.le_trans h.deep (by decide))
theorem Neat.noDict {d : PyData} (h : Neat d) : d.hasDict = false := PyData.hasDict_of_canLay d h.lay
theorem Neat.refl {d : PyData} (h : Neat d) : PyData.eqv d d = true := SeqAt.eqv_refl d h.lay
/-- the same, with a bound of its own for the text and for the depth -/
structure Mild (d : PyData) (n k : Nat) : Prop where
  lay : d.canLay0 = true
  show_ : d.showable = true
  deep : d.depth ≤ k
  len : d.shown.length ≤ n
theorem Mild.neat {d : PyData} {n k : Nat} (h : Mild d n k) (hn : n ≤ 16777216) (hk : k ≤ 32) : Neat d := ⟨h.lay, h.show_, Nat.le_trans h.deep hk, Nat.le_trans h.len hn⟩
theorem Mild.mono {d : PyData} {n k m j : Nat} (h : Mild d n k) (hn : n ≤ m) (hk : k ≤ j) : Mild d m j := ⟨h.lay, h.show_, Nat.le_trans h.deep hk, Nat.le_trans h.len hn⟩
theorem Mild.int {i : Int} (h : i.natAbs.log2 < 1920) : Mild (.int i) 1921 0 := ⟨rfl, decide_eq_true h, Nat.le_refl _, int_text_len h⟩
theorem Mild.str {y : Str} {n : Nat} (a : Small y n) : Mild (.str y) (2 + 10 * n) 0 := by
  refine ⟨?_, rfl, Nat.le_refl _, ?_⟩
  · show PySem.PyData.strOk y = true
    unfold PySem.PyData.strOk
    rw [Array.all_eq_true]
    intro j hj
    have := a.low y.cps[j] (by simp)
    exact decide_eq_true (by omega)
  · show (reprText y).length ≤ _
    have h1 := StrLaws.reprText_len y fun c hc => Nat.lt_of_lt_of_le (a.low c hc) (by decide)
    have h2 := a.len
    omega
theorem textFrom_le : ∀ (ts : List Str) (k : Nat) (acc : Str), (textFrom k acc ts).length ≤ acc.length + (ts.map fun t => t.length + 2).sum
  | [], k, acc => by
    show acc.length ≤ acc.length + 0
    omega
  | t :: r, k, acc => by
    have h := textFrom_le r (k + 1) (acc ++ (if k > 0 then ", " else "" : String) ++ t)
    have e : (acc ++ (if k > 0 then ", " else "" : String) ++ t).length = acc.length + (if k > 0 then 2 else 0) + t.length := by
      rw [strLen_append, strLen_append]
      by_cases hk : k > 0
      · rw [if_pos hk, if_pos hk]
        rfl
      · rw [if_neg hk, if_neg hk]
        rfl
    have e2 : textFrom k acc (t :: r) = textFrom (k + 1) (acc ++ (if k > 0 then ", " else "" : String) ++ t) r := rfl
    rw [e2, List.map_cons, List.sum_cons]
    rw [e] at h
    have hs : (if k > 0 then 2 else 0) ≤ 2 := by split <;> omega
    omega
theorem join_le : ∀ ts : List Str, (Str.join ", " ts).length ≤ (ts.map fun t => t.length + 2).sum
  | [] => Nat.le_of_eq rfl
  | [x] => by
    show x.length ≤ x.length + 2 + 0
    omega
  | x :: y :: r => by
    have h := join_le (y :: r)
    have e : Str.join ", " (x :: y :: r) = x ++ (", " : Str) ++ Str.join ", " (y :: r) := rfl
    have e2 : ((", " : Str)).length = 2 := by decide +kernel
    rw [e, strLen_append, strLen_append, e2, List.map_cons, List.sum_cons]
    omega
theorem sum_le {m : Nat} : ∀ {ts : List Str}, (∀ t ∈ ts, t.length ≤ m) → (ts.map fun t => t.length + 2).sum ≤ ts.length * (m + 2)
  | [], _ => Nat.le_of_eq (Nat.zero_mul _).symm
  | t :: r, h => by
    have h1 := sum_le fun x hx => h x (List.mem_cons_of_mem _ hx)
    have h2 := h t List.mem_cons_self
    rw [List.map_cons, List.sum_cons, List.length_cons, Nat.succ_mul]
    omega
theorem all_mild {n k : Nat} : ∀ {ds : List PyData}, (∀ d ∈ ds, Mild d n k) → PyData.canLayAll0 ds = true ∧ PyData.showableAll ds = true ∧ PyData.depthAll ds ≤ k ∧ (PyData.shownAll ds).length = ds.length ∧ ∀ t ∈ PyData.shownAll ds, t.length ≤ n
  | [], _ => ⟨rfl, rfl, Nat.zero_le _, rfl, fun t ht => absurd ht List.not_mem_nil⟩
  | d :: ds, h => by
    obtain ⟨h1, h2, h3, h4, h5⟩ := all_mild fun x hx => h x (List.mem_cons_of_mem _ hx)
    have hd := h d List.mem_cons_self
    refine ⟨?_, ?_, ?_, ?_, ?_⟩
    · show (d.canLay0 && PyData.canLayAll0 ds) = true
      rw [hd.lay, h1]
      rfl
    · show (d.showable && PyData.showableAll ds) = true
      rw [hd.show_, h2]
      rfl
    · show max d.depth (PyData.depthAll ds) ≤ k
      exact Nat.max_le.mpr ⟨hd.deep, h3⟩
    · show (PyData.shownAll ds).length + 1 = ds.length + 1
      rw [h4]
    · intro t ht
      rcases List.mem_cons.mp (show t ∈ d.shown :: PyData.shownAll ds from ht) with e | e
      · rw [e]
        exact hd.len
      · exact h5 t e
theorem Mild.list {ds : List PyData} {n k m : Nat} (h : ∀ d ∈ ds, Mild d n k) (hm : ds.length ≤ m) : Mild (.list ds) (2 + m * (n + 2)) (k + 1) := by
  obtain ⟨h1, h2, h3, h4, h5⟩ := all_mild h
  refine ⟨h1, h2, Nat.succ_le_succ h3, ?_⟩
  show (listText (PyData.shownAll ds)).length ≤ _
  have a := textFrom_le (PyData.shownAll ds) 0 "["
  have b := sum_le h5
  rw [h4] at b
  have c : ds.length * (n + 2) ≤ m * (n + 2) := Nat.mul_le_mul_right _ hm
  have e : (listText (PyData.shownAll ds)).length = (textFrom 0 "[" (PyData.shownAll ds)).length + 1 := by
    show (textFrom 0 "[" (PyData.shownAll ds) ++ _).length = _
    rw [strLen_append]
    rfl
  have e1 : ((("[" : String) : Str)).length = 1 := by decide +kernel
  rw [e1] at a
  omega
theorem Mild.tuple {ds : List PyData} {n k m : Nat} (h : ∀ d ∈ ds, Mild d n k) (hm : ds.length ≤ m) : Mild (.tuple ds) (3 + m * (n + 2)) (k + 1) := by
  obtain ⟨h1, h2, h3, h4, h5⟩ := all_mild h
  refine ⟨h1, h2, Nat.succ_le_succ h3, ?_⟩
  show (tupleText (PyData.shownAll ds)).length ≤ _
  have a := join_le (PyData.shownAll ds)
  have b := sum_le h5
  rw [h4] at b
  have c : ds.length * (n + 2) ≤ m * (n + 2) := Nat.mul_le_mul_right _ hm
  have e : (tupleText (PyData.shownAll ds)).length ≤ (Str.join ", " (PyData.shownAll ds)).length + 3 := by
    show (("(" : Str) ++ Str.join ", " (PyData.shownAll ds) ++ (if (PyData.shownAll ds).length == 1 then ",)" else ")" : String)).length ≤ _
    rw [strLen_append, strLen_append]
    have e1 : (("(" : Str)).length = 1 := by decide +kernel
    have e2 : ((",)" : String) : Str).length = 2 := by decide +kernel
    have e3 : ((")" : String) : Str).length = 1 := by decide +kernel
    rw [e1]
    split
    · rw [e2]; omega
    · rw [e3]; omega
  omega
/-- a row of a name and a number -/
theorem Mild.row {r : Str × Int} {n : Nat} (a : Small r.1 n) (hn : n ≤ 100) (h : r.2.natAbs.log2 < 1920) : Mild (rowD r) 4000 1 := by
  refine (Mild.tuple (n := 1921) (k := 0) (m := 2) (fun d hd => ?_) (Nat.le_refl _)).mono (by decide) (Nat.le_refl _)
  rcases List.mem_cons.mp hd with e | e
  · rw [e]
    exact (Mild.str a).mono (by omega) (Nat.le_refl _)
  · rw [List.mem_singleton.mp e]
    exact Mild.int h
end Own

set_option Elab.async false
set_option maxRecDepth 100000
set_option maxHeartbeats 4000000
set_option linter.all false
namespace My
open PySem L2 Own
def top (i : Nat) : Stmt := PySem.Challenge.pw_oneroof_k07_worlds_told.main.body.getD i (.Pass ⟨0, 0, 0, 0⟩)
abbrev s_World_init : Stmt := inClass (top 13) 0
abbrev N_World_init : List Str := ["self", "coins", "houses"]
abbrev ps_World_init : List Str := ["self", "coins", "houses"]
theorem sc_World_init : FnScope N_World_init ps_World_init (defScope s_World_init) := ⟨rfl, rfl, rfl, by decide +kernel, rfl, by decide +kernel, by decide +kernel⟩
abbrev s_World_coin_rows : Stmt := inClass (top 13) 1
abbrev N_World_coin_rows : List Str := ["self"]
abbrev ps_World_coin_rows : List Str := ["self"]
theorem sc_World_coin_rows : FnScope N_World_coin_rows ps_World_coin_rows (defScope s_World_coin_rows) := ⟨rfl, rfl, rfl, by decide +kernel, rfl, by decide +kernel, by decide +kernel⟩
abbrev s_World_house_rows : Stmt := inClass (top 13) 2
abbrev N_World_house_rows : List Str := ["self"]
abbrev ps_World_house_rows : List Str := ["self"]
theorem sc_World_house_rows : FnScope N_World_house_rows ps_World_house_rows (defScope s_World_house_rows) := ⟨rfl, rfl, rfl, by decide +kernel, rfl, by decide +kernel, by decide +kernel⟩
abbrev s_need_number : Stmt := top 14
abbrev N_need_number : List Str := ["sort", "number", "least", "most"]
abbrev ps_need_number : List Str := ["sort", "number"]
theorem sc_need_number : FnScope N_need_number ps_need_number (defScope s_need_number) := ⟨rfl, rfl, rfl, by decide +kernel, rfl, by decide +kernel, by decide +kernel⟩
abbrev s_need_name : Stmt := top 15
abbrev N_need_name : List Str := ["name", "sign"]
abbrev ps_need_name : List Str := ["name"]
theorem sc_need_name : FnScope N_need_name ps_need_name (defScope s_need_name) := ⟨rfl, rfl, rfl, by decide +kernel, rfl, by decide +kernel, by decide +kernel⟩
abbrev s_numbers_by_name : Stmt := top 16
abbrev N_numbers_by_name : List Str := ["rows", "most", "sort", "numbers", "name", "number"]
abbrev ps_numbers_by_name : List Str := ["rows", "most", "sort"]
theorem sc_numbers_by_name : FnScope N_numbers_by_name ps_numbers_by_name (defScope s_numbers_by_name) := ⟨rfl, rfl, rfl, by decide +kernel, rfl, by decide +kernel, by decide +kernel⟩
abbrev s_l_cell : Stmt := top 18
abbrev N_l_cell : List Str := ["_law_script", "_law_k", "_law_base", "_law_one"]
abbrev ps_l_cell : List Str := ["_law_script", "_law_k"]
theorem sc_l_cell : FnScope N_l_cell ps_l_cell (defScope s_l_cell) := ⟨rfl, rfl, rfl, by decide +kernel, rfl, by decide +kernel, by decide +kernel⟩
abbrev s_l_digits : Stmt := top 19
abbrev N_l_digits : List Str := ["_law_script", "_law_k", "_law_sizes", "_law_cell_here", "_law_out", "_law_rest", "_law_size", "_law_one", "_law_j", "_law_two"]
abbrev ps_l_digits : List Str := ["_law_script", "_law_k", "_law_sizes"]
theorem sc_l_digits : FnScope N_l_digits ps_l_digits (defScope s_l_digits) := ⟨rfl, rfl, rfl, by decide +kernel, rfl, by decide +kernel, by decide +kernel⟩
abbrev s_l_names : Stmt := top 20
abbrev N_l_names : List Str := ["_law_script", "_law_k", "_law_many", "_law_found", "_law_letters", "_law_j", "_law_one", "_law_two", "_law_size", "_law_place", "_law_rest", "_law_name", "_law_i", "_law_tail"]
abbrev ps_l_names : List Str := ["_law_script", "_law_k", "_law_many"]
theorem sc_l_names : FnScope N_l_names ps_l_names (defScope s_l_names) := ⟨rfl, rfl, rfl, by decide +kernel, rfl, by decide +kernel, by decide +kernel⟩
abbrev s_l_world : Stmt := top 21
abbrev N_l_world : List Str := ["_law_script", "_law_k", "_law_coins", "_law_houses", "_law_names_here", "_law_rows", "_law_j", "_law_rate", "_law_folk", "_law_made", "_law_shares"]
abbrev ps_l_world : List Str := ["_law_script", "_law_k", "_law_coins", "_law_houses"]
theorem sc_l_world : FnScope N_l_world ps_l_world (defScope s_l_world) := ⟨rfl, rfl, rfl, by decide +kernel, rfl, by decide +kernel, by decide +kernel⟩
abbrev s_l_same : Stmt := top 22
abbrev N_l_same : List Str := ["_law_one", "_law_other"]
abbrev ps_l_same : List Str := ["_law_one", "_law_other"]
theorem sc_l_same : FnScope N_l_same ps_l_same (defScope s_l_same) := ⟨rfl, rfl, rfl, by decide +kernel, rfl, by decide +kernel, by decide +kernel⟩
abbrev s_law : Stmt := top 23
abbrev N_law : List Str := ["_law_script", "_law_many", "_law_folk", "_law_other_many", "_law_other_folk", "_law_alike", "_law_one_rows", "_law_two_rows", "_law_handed", "_law_one", "_law_two", "_law_rows", "_law_k", "_law_seen"]
abbrev ps_law : List Str := ["_law_script"]
theorem sc_law : FnScope N_law ps_law (defScope s_law) := ⟨rfl, rfl, rfl, by decide +kernel, rfl, by decide +kernel, by decide +kernel⟩
structure Adr where
  C_World : Addr
  f_World_init : Addr
  d_World_init : FuncData
  f_World_coin_rows : Addr
  d_World_coin_rows : FuncData
  f_World_house_rows : Addr
  d_World_house_rows : FuncData
  f_need_number : Addr
  d_need_number : FuncData
  f_need_name : Addr
  d_need_name : FuncData
  f_numbers_by_name : Addr
  d_numbers_by_name : FuncData
  f_l_cell : Addr
  d_l_cell : FuncData
  f_l_digits : Addr
  d_l_digits : FuncData
  f_l_names : Addr
  d_l_names : FuncData
  f_l_world : Addr
  d_l_world : FuncData
  f_l_same : Addr
  d_l_same : FuncData
  f_law : Addr
  d_law : FuncData
  B_BOUNDS : Addr
  BT_BOUNDS_rate : Addr
  BT_BOUNDS_shares : Addr
/-- what the walk asks of the text -/
structure Tx (a : Adr) (K : PySem.W.Frag) (mg : Str → Option Value) (w : World) : Prop where
  F_World_init : Fun K "__init__" "World.__init__" s_World_init a.f_World_init a.d_World_init
  F_World_coin_rows : Fun K "coin_rows" "World.coin_rows" s_World_coin_rows a.f_World_coin_rows a.d_World_coin_rows
  F_World_house_rows : Fun K "house_rows" "World.house_rows" s_World_house_rows a.f_World_house_rows a.d_World_house_rows
  F_need_number : Fun K "_need_number" "_need_number" s_need_number a.f_need_number a.d_need_number
  mg_need_number : mg "_need_number" = some (.ref a.f_need_number)
  F_need_name : Fun K "_need_name" "_need_name" s_need_name a.f_need_name a.d_need_name
  mg_need_name : mg "_need_name" = some (.ref a.f_need_name)
  F_numbers_by_name : Fun K "_numbers_by_name" "_numbers_by_name" s_numbers_by_name a.f_numbers_by_name a.d_numbers_by_name
  mg_numbers_by_name : mg "_numbers_by_name" = some (.ref a.f_numbers_by_name)
  F_l_cell : Fun K "_law_cell" "_law_cell" s_l_cell a.f_l_cell a.d_l_cell
  mg_l_cell : mg "_law_cell" = some (.ref a.f_l_cell)
  F_l_digits : Fun K "_law_digits" "_law_digits" s_l_digits a.f_l_digits a.d_l_digits
  mg_l_digits : mg "_law_digits" = some (.ref a.f_l_digits)
  F_l_names : Fun K "_law_names" "_law_names" s_l_names a.f_l_names a.d_l_names
  mg_l_names : mg "_law_names" = some (.ref a.f_l_names)
  F_l_world : Fun K "_law_world" "_law_world" s_l_world a.f_l_world a.d_l_world
  mg_l_world : mg "_law_world" = some (.ref a.f_l_world)
  F_l_same : Fun K "_law_same" "_law_same" s_l_same a.f_l_same a.d_l_same
  mg_l_same : mg "_law_same" = some (.ref a.f_l_same)
  F_law : Fun K "law" "law" s_law a.f_law a.d_law
  mg_law : mg "law" = some (.ref a.f_law)
  mg_World : mg "World" = some (.ref a.C_World)
  kp_World : PySem.W.keepIn K (.ref a.C_World) = true
  cl_World : Cls K a.C_World
  mk_World : Mk K a.C_World a.f_World_init
  m_World_coin_rows : Meth K a.C_World "coin_rows" a.f_World_coin_rows
  m_World_house_rows : Meth K a.C_World "house_rows" a.f_World_house_rows
  na_World__rates : PySem.W.findIn K (.ref a.C_World) "_rates" = some none
  na_World__shares : PySem.W.findIn K (.ref a.C_World) "_shares" = some none
  mg_MOST_COINS : ∃ t, mg "MOST_COINS" = some (.int 5 t)
  mg_MOST_HOUSES : ∃ t, mg "MOST_HOUSES" = some (.int 8 t)
  mg_MOST_LETTERS : ∃ t, mg "MOST_LETTERS" = some (.int 6 t)
  mg_LETTERS : ∃ t, mg "LETTERS" = some (.str "abcdefghijklmnopqrstuvwxyz" t)
  mg_BOUNDS : mg "BOUNDS" = some (.ref a.B_BOUNDS)
  ix_BOUNDS_rate : KDct K w a.B_BOUNDS "rate" (.ref a.BT_BOUNDS_rate)
  sq_BOUNDS_rate : SqtK K a.BT_BOUNDS_rate [V.int 1, V.int 1000000000]
  ix_BOUNDS_shares : KDct K w a.B_BOUNDS "shares" (.ref a.BT_BOUNDS_shares)
  sq_BOUNDS_shares : SqtK K a.BT_BOUNDS_shares [V.int 1, V.int 1000000]
  no_len : mg "len" = none
  no_range : mg "range" = none
  no_isinstance : mg "isinstance" = none
  no_repr : mg "repr" = none
  no_dict : mg "dict" = none
  no_list : mg "list" = none
  no_sorted : mg "sorted" = none
section
variable {P : Program} {w : World} {K : PySem.W.Frag} {mg : Str → Option Value} {base : Heap} {a : Adr}
theorem cxK {CX : CXT} {N : List Str} {q : Str} {sc : Scope} {f : Addr} {cdv : Value} {A : Around} {outer : List Env} {s : Shared} {H : Hp} {E : XK} : (cxOf CX P w K mg base N q sc f cdv A outer s H E).K = K := rfl
theorem bnd_World_init (T : Tx a K mg w) : Binds K a.d_World_init ps_World_init [] :=
  T.F_World_init.binds (ps := ps_World_init) fun _ _ _ _ _ _ us hl => match us, hl with | [_, _, _], _ => rfl
theorem bnd_World_coin_rows (T : Tx a K mg w) : Binds K a.d_World_coin_rows ps_World_coin_rows [] :=
  T.F_World_coin_rows.binds (ps := ps_World_coin_rows) fun _ _ _ _ _ _ us hl => match us, hl with | [_], _ => rfl
theorem bnd_World_house_rows (T : Tx a K mg w) : Binds K a.d_World_house_rows ps_World_house_rows [] :=
  T.F_World_house_rows.binds (ps := ps_World_house_rows) fun _ _ _ _ _ _ us hl => match us, hl with | [_], _ => rfl
theorem bnd_need_number (T : Tx a K mg w) : Binds K a.d_need_number ps_need_number [] :=
  T.F_need_number.binds (ps := ps_need_number) fun _ _ _ _ _ _ us hl => match us, hl with | [_, _], _ => rfl
theorem bnd_need_name (T : Tx a K mg w) : Binds K a.d_need_name ps_need_name [] :=
  T.F_need_name.binds (ps := ps_need_name) fun _ _ _ _ _ _ us hl => match us, hl with | [_], _ => rfl
theorem bnd_numbers_by_name (T : Tx a K mg w) : Binds K a.d_numbers_by_name ps_numbers_by_name [] :=
  T.F_numbers_by_name.binds (ps := ps_numbers_by_name) fun _ _ _ _ _ _ us hl => match us, hl with | [_, _, _], _ => rfl
theorem bnd_l_cell (T : Tx a K mg w) : Binds K a.d_l_cell ps_l_cell [] :=
  T.F_l_cell.binds (ps := ps_l_cell) fun _ _ _ _ _ _ us hl => match us, hl with | [_, _], _ => rfl
theorem bnd_l_digits (T : Tx a K mg w) : Binds K a.d_l_digits ps_l_digits [] :=
  T.F_l_digits.binds (ps := ps_l_digits) fun _ _ _ _ _ _ us hl => match us, hl with | [_, _, _], _ => rfl
theorem bnd_l_names (T : Tx a K mg w) : Binds K a.d_l_names ps_l_names [] :=
  T.F_l_names.binds (ps := ps_l_names) fun _ _ _ _ _ _ us hl => match us, hl with | [_, _, _], _ => rfl
theorem bnd_l_world (T : Tx a K mg w) : Binds K a.d_l_world ps_l_world [] :=
  T.F_l_world.binds (ps := ps_l_world) fun _ _ _ _ _ _ us hl => match us, hl with | [_, _, _, _], _ => rfl
theorem bnd_l_same (T : Tx a K mg w) : Binds K a.d_l_same ps_l_same [] :=
  T.F_l_same.binds (ps := ps_l_same) fun _ _ _ _ _ _ us hl => match us, hl with | [_, _], _ => rfl
theorem bnd_law (T : Tx a K mg w) : Binds K a.d_law ps_law [] :=
  T.F_law.binds (ps := ps_law) fun _ _ _ _ _ _ us hl => match us, hl with | [_], _ => rfl
/-! ### _law_cell -/
def spCell (K : PySem.W.Frag) : Sp := fun vs H Q _ => ∃ (l : Addr) (ns : List Int) (k : Int), vs = [.ref l, .int k] ∧ SqL K H l (ns.map V.int) ∧ ns.length ≤ 63 ∧ 0 ≤ k ∧ k < 1000000 ∧ ∀ c : Int, Q (.int c) H
theorem ok_l_cell (T : Tx a K mg w) : FnOk P w K mg base CX0 1 a.f_l_cell a.d_l_cell ps_l_cell (spCell K) := by
  refine T.F_l_cell.ok sc_l_cell (fun vs H Q E h => ?_) (fun cdv A outer s H vs Q E hr h => ?_)
  · obtain ⟨l, ns, k, rfl, _⟩ := h
    rfl
  · obtain ⟨l, ns, k, rfl, hs, hn, h0, h1, q⟩ := h
    refine ⟨_, (pss_cons (ps_if (pt_cmpR op_lt (pv 1) (pe_callB call_len_seq (by rfl) T.no_len (by decide +kernel) (pa_cons (pv 0) pa_nil)) (nomark _)) (pss_one (ps_ret (pe_ix ix_list (pv 0) (pv 1) (fun _ _ => rfl)))) pss_nil)
      (pss_cons (ps_set (i := 2) sc_l_cell.nd rfl (by first | exact Or.inl rfl | exact Or.inr rfl) pe_int)
      (pss_cons (ps_for PassesOwn.never rfl (pi_list (pv 0)) (pg_name (i := 3) sc_l_cell.nd rfl (by first | exact Or.inl rfl | exact Or.inr rfl))
        (pss_one (ps_set (i := 2) sc_l_cell.nd rfl (by first | exact Or.inl rfl | exact Or.inr rfl) (pe_op op_mod (pe_op op_add (pe_op op_mulW (pv 2) pe_int) (pv 3)) pe_int))))
      (pss_one (ps_ret (pe_op op_mod (pe_op op_mulW (pe_op op_mulW (pe_op op_add (pv 2) pe_int) (pe_op op_add (pv 1) pe_int)) pe_int) pe_int)))))), ?_⟩
    show tSeq _ _ _ [some (V.ref l), some (V.int k), none, none] H
    simp only [tSeq, tIfS, tOp, tVar, tC, tCB, tCons, tNil, rI0, rI, tTest, tRet, tRetN, tNext, tAsg, gName, gNil, gCons, gTup, gUnl, tLst, tTup, tCall, tMeth, tMake, tUn, rU, tAndV, tOrV, tNotV, tAnd, tOr, tNot, tIf, tB, tFld, tDrop, tPar, tNever, tBM, rAppend, tSl, tPart, tNoPart, tM1, tyLst, List.getElem?_cons_zero, List.getElem?_cons_succ, Option.some.injEq, exists_eq_left', exists_eq_left, V.int.injEq, V.bl.injEq, V.str.injEq, V.ref.injEq, List.set_cons_zero, List.set_cons_succ, exists_and_left, exists_and_right, and_assoc, List.cons.injEq, and_true, true_and, List.cons_append, List.nil_append, List.append_nil, List.length_cons, List.length_nil, exists_eq', exists_eq, exists_const, exists_eq_right, exists_eq_right', cxK, Cx.nox, Cx.wish]
    refine ⟨_, .inl hs, ?_⟩
    rw [List.length_map]
    refine ite2 (fun hk => ?_) (fun hk => ?_)
    · have hk := of_decide_eq_true hk
      simp only [rIxL, tSeq, tIfS, tOp, tVar, tC, tCB, tCons, tNil, rI0, rI, tTest, tRet, tRetN, tNext, tAsg, gName, gNil, gCons, gTup, gUnl, tLst, tTup, tCall, tMeth, tMake, tUn, rU, tAndV, tOrV, tNotV, tAnd, tOr, tNot, tIf, tB, tFld, tDrop, tPar, tNever, tBM, rAppend, tSl, tPart, tNoPart, tM1, tyLst, List.getElem?_cons_zero, List.getElem?_cons_succ, Option.some.injEq, exists_eq_left', exists_eq_left, V.int.injEq, V.bl.injEq, V.str.injEq, V.ref.injEq, List.set_cons_zero, List.set_cons_succ, exists_and_left, exists_and_right, and_assoc, List.cons.injEq, and_true, true_and, List.cons_append, List.nil_append, List.append_nil, List.length_cons, List.length_nil, exists_eq', exists_eq, exists_const, exists_eq_right, exists_eq_right', cxK, Cx.nox, Cx.wish]
      obtain ⟨v, hv, e⟩ := atI_lt (xs := ns) h0 hk
      exact ⟨_, hs, .int v, atI_map e, q v⟩
    · refine for_listI (a := l) (xs := ns.map V.int) rfl hs (fun i σ H' => H' = H ∧ ∃ (b : Int) (v : Option V), σ = [some (V.ref l), some (V.int k), some (V.int b), v] ∧ b.natAbs < 2 ^ 62) ⟨rfl, 17, none, rfl, by decide⟩ (fun i σ H' _ hh => hh.1 ▸ hs) ?_ ?_
      · rintro i x σ H' hx ⟨rfl, b, v, rfl, hb⟩
        obtain ⟨z, rfl⟩ : ∃ z, x = V.int z := by
          obtain ⟨z, _, e⟩ := List.mem_map.mp (List.mem_of_getElem? hx)
          exact ⟨z, e.symm⟩
        simp only [tSeq, tIfS, tOp, tVar, tC, tCB, tCons, tNil, rI0, rI, tTest, tRet, tRetN, tNext, tAsg, gName, gNil, gCons, gTup, gUnl, tLst, tTup, tCall, tMeth, tMake, tUn, rU, tAndV, tOrV, tNotV, tAnd, tOr, tNot, tIf, tB, tFld, tDrop, tPar, tNever, tBM, rAppend, tSl, tPart, tNoPart, tM1, tyLst, List.getElem?_cons_zero, List.getElem?_cons_succ, Option.some.injEq, exists_eq_left', exists_eq_left, V.int.injEq, V.bl.injEq, V.str.injEq, V.ref.injEq, List.set_cons_zero, List.set_cons_succ, exists_and_left, exists_and_right, and_assoc, List.cons.injEq, and_true, true_and, List.cons_append, List.nil_append, List.append_nil, List.length_cons, List.length_nil, exists_eq', exists_eq, exists_const, exists_eq_right, exists_eq_right', cxK, Cx.nox, Cx.wish]
        exact ⟨mulW64 (by omega) (by decide), by decide, by omega⟩
      · rintro σ H' ⟨rfl, b, v, rfl, hb⟩
        simp only [tSeq, tIfS, tOp, tVar, tC, tCB, tCons, tNil, rI0, rI, tTest, tRet, tRetN, tNext, tAsg, gName, gNil, gCons, gTup, gUnl, tLst, tTup, tCall, tMeth, tMake, tUn, rU, tAndV, tOrV, tNotV, tAnd, tOr, tNot, tIf, tB, tFld, tDrop, tPar, tNever, tBM, rAppend, tSl, tPart, tNoPart, tM1, tyLst, List.getElem?_cons_zero, List.getElem?_cons_succ, Option.some.injEq, exists_eq_left', exists_eq_left, V.int.injEq, V.bl.injEq, V.str.injEq, V.ref.injEq, List.set_cons_zero, List.set_cons_succ, exists_and_left, exists_and_right, and_assoc, List.cons.injEq, and_true, true_and, List.cons_append, List.nil_append, List.append_nil, List.length_cons, List.length_nil, exists_eq', exists_eq, exists_const, exists_eq_right, exists_eq_right', cxK, Cx.nox, Cx.wish]
        refine ⟨mulW64 (by omega) (by omega), mulWn 128 64 ?_ (by decide) (by decide) (by decide) (by decide), by decide, q _⟩
        exact mul_lt 64 64 (by omega) (by omega)

/-! ### _law_digits -/
def spDigits (K : PySem.W.Frag) : Sp := fun vs H Q _ => ∃ (l z : Addr) (ns szs : List Int) (k : Int), vs = [.ref l, .int k, .ref z] ∧ SqL K H l (ns.map V.int) ∧ ns.length ≤ 63 ∧ 0 ≤ k ∧ k < 1000000 ∧ SqL K H z (szs.map V.int) ∧ szs.length ≤ 64 ∧ (∀ y ∈ szs, 0 < y ∧ y < 1073741824) ∧
  ∀ (ds : List Int) (p : Addr), Drawn ds szs → H p = none → Q (.ref p) (upd H p (.lst (ds.map V.int)))
theorem ok_l_digits (T : Tx a K mg w) : FnOk P w K mg base CX0 2 a.f_l_digits a.d_l_digits ps_l_digits (spDigits K) := by
  refine T.F_l_digits.ok sc_l_digits (fun vs H Q E h => ?_) (fun cdv A outer s H vs Q E hr h => ?_)
  · obtain ⟨l, z, ns, szs, k, rfl, _⟩ := h
    rfl
  · obtain ⟨l, z, ns, szs, k, rfl, hs, hn, h0, h1, hz, hzl, hzb, q⟩ := h
    have G_l_cell := ok_l_cell (P := P) (w := w) (base := base) T
    have B_l_cell := bnd_l_cell T
    have hr_l_cell : Room 1 _ := hr
    refine ⟨_, (pss_cons (ps_set (i := 3) sc_l_digits.nd rfl (by first | exact Or.inl rfl | exact Or.inr rfl) (pe_call G_l_cell hr_l_cell (by rfl) T.mg_l_cell T.F_l_cell.kp B_l_cell .nil pass0 (pa_cons (pv 0) (pa_cons (pv 1) pa_nil))))
      (pss_cons (ps_set (i := 4) sc_l_digits.nd rfl (by first | exact Or.inl rfl | exact Or.inr rfl) (pe_lst pa_nil))
      (pss_cons (ps_if (pt_cmpR op_ge (pv 3) (pe_op op_pow pe_int pe_int) (nomark _)) (pss_cons (ps_set (i := 5) sc_l_digits.nd rfl (by first | exact Or.inl rfl | exact Or.inr rfl) (pe_op op_sub (pv 3) (pe_op op_pow pe_int pe_int)))
        (pss_cons (ps_for PassesOwn.never rfl (pi_list (pv 2)) (pg_name (i := 6) sc_l_digits.nd rfl (by first | exact Or.inl rfl | exact Or.inr rfl))
          (pss_cons (ps_expr (pe_bm PySem.F.plainAttrs_list PySem.F.slot_list_append PySem.F.type_list_append mt_append (pv 4) (pa_cons (pe_op op_mod (pv 5) (pv 6)) pa_nil)))
          (pss_one (ps_set (i := 5) sc_l_digits.nd rfl (by first | exact Or.inl rfl | exact Or.inr rfl) (pe_op op_fdivA (pv 5) (pv 6))))))
        (pss_one (ps_ret (pv 4))))) pss_nil)
      (pss_cons (ps_set (i := 7) sc_l_digits.nd rfl (by first | exact Or.inl rfl | exact Or.inr rfl) (pe_op op_mod (pv 3) pe_int))
      (pss_cons (ps_for PassesOwn.never rfl (pi_range1 rfl T.no_range (pa_cons (pe_callB call_len_seq (by rfl) T.no_len (by decide +kernel) (pa_cons (pv 2) pa_nil)) pa_nil)) (pg_name (i := 8) sc_l_digits.nd rfl (by first | exact Or.inl rfl | exact Or.inr rfl))
        (pss_cons (ps_set (i := 7) sc_l_digits.nd rfl (by first | exact Or.inl rfl | exact Or.inr rfl) (pe_op op_mod (pe_op op_add (pe_op op_mulW (pv 7) pe_int) (pe_op op_mulW pe_int (pe_op op_add (pv 8) pe_int))) pe_int))
        (pss_cons (ps_set (i := 9) sc_l_digits.nd rfl (by first | exact Or.inl rfl | exact Or.inr rfl) (pe_op op_mod (pe_op op_add (pe_op op_add (pe_op op_mulW (pv 7) (pv 7)) (pe_op op_mulW pe_int (pv 7))) (pv 8)) pe_int))
        (pss_one (ps_expr (pe_bm PySem.F.plainAttrs_list PySem.F.slot_list_append PySem.F.type_list_append mt_append (pv 4) (pa_cons (pe_op op_mod (pe_op op_fdivA (pv 9) pe_int) (pe_ix ix_list (pv 2) (pv 8) (fun _ _ => rfl))) pa_nil)))))))
      (pss_one (ps_ret (pv 4)))))))), ?_⟩
    show tSeq _ _ _ [some (V.ref l), some (V.int k), some (V.ref z), none, none, none, none, none, none, none] H
    simp only [tSeq, tIfS, tOp, tVar, tC, tCB, tCons, tNil, rI0, rI, tTest, tRet, tRetN, tNext, tAsg, gName, gNil, gCons, gTup, gUnl, tLst, tTup, tCall, tMeth, tMake, tUn, rU, tAndV, tOrV, tNotV, tAnd, tOr, tNot, tIf, tB, tFld, tDrop, tPar, tNever, tBM, rAppend, tSl, tPart, tNoPart, tM1, tyLst, List.getElem?_cons_zero, List.getElem?_cons_succ, Option.some.injEq, exists_eq_left', exists_eq_left, V.int.injEq, V.bl.injEq, V.str.injEq, V.ref.injEq, List.set_cons_zero, List.set_cons_succ, exists_and_left, exists_and_right, and_assoc, List.cons.injEq, and_true, true_and, List.cons_append, List.nil_append, List.append_nil, List.length_cons, List.length_nil, exists_eq', exists_eq, exists_const, exists_eq_right, exists_eq_right', cxK, Cx.nox, Cx.wish]
    refine ⟨l, ns, k, rfl, hs, hn, h0, h1, fun c => ?_⟩
    refine ⟨by decide, fun p hp => ?_⟩
    have key : ∀ (y : Int) (ds : List Int) (i : Nat), szs[i]? = some y → Drawn ds (szs.take i) → ∀ d : Int, 0 ≤ d → d < y → Drawn (ds ++ [d]) (szs.take (i + 1)) := fun y ds i hy hd d h1 h2 => by
      rw [take_snoc hy]
      exact PySem.Paired.snoc hd ⟨h1, h2⟩
    have dl : ∀ {ds : List Int} {i : Nat}, Drawn ds (szs.take i) → ds.length < sizeLine := fun {ds i} hd => by
      have h1 : ds.length = (szs.take i).length := Paired.length hd
      rw [List.length_take] at h1
      have h2 : sizeLine = 16777216 := rfl
      omega
    have hpz : ∀ u, SqL K (upd H p u) z (szs.map V.int) := fun u => seqL hz (Ext.upd hp)
    simp only [tSeq, tIfS, tOp, tVar, tC, tCB, tCons, tNil, rI0, rI, tTest, tRet, tRetN, tNext, tAsg, gName, gNil, gCons, gTup, gUnl, tLst, tTup, tCall, tMeth, tMake, tUn, rU, tAndV, tOrV, tNotV, tAnd, tOr, tNot, tIf, tB, tFld, tDrop, tPar, tNever, tBM, rAppend, tSl, tPart, tNoPart, tM1, tyLst, List.getElem?_cons_zero, List.getElem?_cons_succ, Option.some.injEq, exists_eq_left', exists_eq_left, V.int.injEq, V.bl.injEq, V.str.injEq, V.ref.injEq, List.set_cons_zero, List.set_cons_succ, exists_and_left, exists_and_right, and_assoc, List.cons.injEq, and_true, true_and, List.cons_append, List.nil_append, List.append_nil, List.length_cons, List.length_nil, exists_eq', exists_eq, exists_const, exists_eq_right, exists_eq_right', cxK, Cx.nox, Cx.wish]
    refine ⟨⟨by decide, by decide, by decide⟩, ite2 (fun hb => ?_) (fun hb => ?_)⟩
    · refine ⟨⟨by decide, by decide, by decide⟩, ?_⟩
      refine for_listI (a := z) (xs := szs.map V.int) rfl (hpz _) (fun i σ H' => ∃ (r : Int) (v : Option V) (ds : List Int), σ = [some (V.ref l), some (V.int k), some (V.ref z), some (V.int c), some (V.ref p), some (V.int r), v, none, none, none] ∧ H' = upd H p (.lst (ds.map V.int)) ∧ Drawn ds (szs.take i))
        ⟨_, none, [], rfl, rfl, .nil⟩ (fun i σ H' _ ⟨_, _, _, _, hh, _⟩ => hh ▸ hpz _) ?_ ?_
      · rintro i x σ H' hx ⟨r, v, ds, rfl, rfl, hd⟩
        obtain ⟨y, hy, rfl⟩ : ∃ y, szs[i]? = some y ∧ x = V.int y := by
          rw [List.getElem?_map] at hx
          cases e : szs[i]? with
          | none => rw [e] at hx; cases hx
          | some y => rw [e] at hx; exact ⟨y, rfl, (Option.some.inj hx).symm⟩
        have hyb := hzb y (List.mem_of_getElem? hy)
        simp only [tSeq, tIfS, tOp, tVar, tC, tCB, tCons, tNil, rI0, rI, tTest, tRet, tRetN, tNext, tAsg, gName, gNil, gCons, gTup, gUnl, tLst, tTup, tCall, tMeth, tMake, tUn, rU, tAndV, tOrV, tNotV, tAnd, tOr, tNot, tIf, tB, tFld, tDrop, tPar, tNever, tBM, rAppend, tSl, tPart, tNoPart, tM1, tyLst, List.getElem?_cons_zero, List.getElem?_cons_succ, Option.some.injEq, exists_eq_left', exists_eq_left, V.int.injEq, V.bl.injEq, V.str.injEq, V.ref.injEq, List.set_cons_zero, List.set_cons_succ, exists_and_left, exists_and_right, and_assoc, List.cons.injEq, and_true, true_and, List.cons_append, List.nil_append, List.append_nil, List.length_cons, List.length_nil, exists_eq', exists_eq, exists_const, exists_eq_right, exists_eq_right', cxK, Cx.nox, Cx.wish]
        refine ⟨tyLst upd_same, hyb.1, _, upd_same, by rw [List.length_map]; exact dl hd, divA_of 64 (by omega) (by omega) (by decide) (by decide), ds ++ [r % y], ?_, key y ds i hy hd _ (Int.emod_nonneg _ (by omega)) (Int.emod_lt_of_pos _ hyb.1)⟩
        rw [upd_upd, List.map_append]
        rfl
      · rintro σ H' ⟨r, v, ds, rfl, rfl, hd⟩
        simp only [tSeq, tIfS, tOp, tVar, tC, tCB, tCons, tNil, rI0, rI, tTest, tRet, tRetN, tNext, tAsg, gName, gNil, gCons, gTup, gUnl, tLst, tTup, tCall, tMeth, tMake, tUn, rU, tAndV, tOrV, tNotV, tAnd, tOr, tNot, tIf, tB, tFld, tDrop, tPar, tNever, tBM, rAppend, tSl, tPart, tNoPart, tM1, tyLst, List.getElem?_cons_zero, List.getElem?_cons_succ, Option.some.injEq, exists_eq_left', exists_eq_left, V.int.injEq, V.bl.injEq, V.str.injEq, V.ref.injEq, List.set_cons_zero, List.set_cons_succ, exists_and_left, exists_and_right, and_assoc, List.cons.injEq, and_true, true_and, List.cons_append, List.nil_append, List.append_nil, List.length_cons, List.length_nil, exists_eq', exists_eq, exists_const, exists_eq_right, exists_eq_right', cxK, Cx.nox, Cx.wish]
        rw [List.length_map, List.take_length] at hd
        exact q ds p hd hp
    · refine ⟨by decide, ?_⟩
      refine for_rangeI (n := (szs.length : Int)) (fun R r => ?_) (by omega) (by omega) (fun i σ H' => ∃ (o : Int) (v u : Option V) (ds : List Int), σ = [some (V.ref l), some (V.int k), some (V.ref z), some (V.int c), some (V.ref p), none, none, some (V.int o), v, u] ∧ o.natAbs < 2 ^ 31 ∧ H' = upd H p (.lst (ds.map V.int)) ∧ Drawn ds (szs.take i))
        ⟨_, none, none, [], rfl, by omega, rfl, .nil⟩ ?_ ?_
      · simp only [tSeq, tIfS, tOp, tVar, tC, tCB, tCons, tNil, rI0, rI, tTest, tRet, tRetN, tNext, tAsg, gName, gNil, gCons, gTup, gUnl, tLst, tTup, tCall, tMeth, tMake, tUn, rU, tAndV, tOrV, tNotV, tAnd, tOr, tNot, tIf, tB, tFld, tDrop, tPar, tNever, tBM, rAppend, tSl, tPart, tNoPart, tM1, tyLst, List.getElem?_cons_zero, List.getElem?_cons_succ, Option.some.injEq, exists_eq_left', exists_eq_left, V.int.injEq, V.bl.injEq, V.str.injEq, V.ref.injEq, List.set_cons_zero, List.set_cons_succ, exists_and_left, exists_and_right, and_assoc, List.cons.injEq, and_true, true_and, List.cons_append, List.nil_append, List.append_nil, List.length_cons, List.length_nil, exists_eq', exists_eq, exists_const, exists_eq_right, exists_eq_right', cxK, Cx.nox, Cx.wish]
        refine ⟨_, .inl (hpz _), ?_⟩
        rw [List.length_map]
        exact r
      · rintro i σ H' hi ⟨o, v, u, ds, rfl, ho, rfl, hd⟩
        rw [Int.toNat_natCast] at hi
        have hy : szs[i]? = some szs[i] := List.getElem?_eq_getElem hi
        have hyb := hzb szs[i] (List.getElem_mem hi)
        have hat : atI (szs.map V.int) (0 + (i : Int)) = some (V.int szs[i]) := by
          rw [Int.zero_add]
          exact atI_map (Own.atI_nat hy)
        simp only [rIxL, tSeq, tIfS, tOp, tVar, tC, tCB, tCons, tNil, rI0, rI, tTest, tRet, tRetN, tNext, tAsg, gName, gNil, gCons, gTup, gUnl, tLst, tTup, tCall, tMeth, tMake, tUn, rU, tAndV, tOrV, tNotV, tAnd, tOr, tNot, tIf, tB, tFld, tDrop, tPar, tNever, tBM, rAppend, tSl, tPart, tNoPart, tM1, tyLst, List.getElem?_cons_zero, List.getElem?_cons_succ, Option.some.injEq, exists_eq_left', exists_eq_left, V.int.injEq, V.bl.injEq, V.str.injEq, V.ref.injEq, List.set_cons_zero, List.set_cons_succ, exists_and_left, exists_and_right, and_assoc, List.cons.injEq, and_true, true_and, List.cons_append, List.nil_append, List.append_nil, List.length_cons, List.length_nil, exists_eq', exists_eq, exists_const, exists_eq_right, exists_eq_right', cxK, Cx.nox, Cx.wish]
        refine ⟨mulW64 (by omega) (by decide), mulW64 (by decide) (by omega), by decide, mulW64 (by omega) (by omega), mulW64 (by decide) (by omega), by decide, tyLst upd_same, divA_of 64 (by decide) (by decide) (by decide) (by decide), _, hpz _, _, hat, ?_⟩
        refine ⟨_, rfl, hyb.1, _, upd_same, by rw [List.length_map]; exact dl hd, by omega, ?_⟩
        generalize hX : Int.fdiv _ 11 = x
        refine ⟨ds ++ [x % szs[i]], ?_, key _ ds i hy hd _ (Int.emod_nonneg _ (by omega)) (Int.emod_lt_of_pos _ hyb.1)⟩
        rw [upd_upd, List.map_append]
        rfl
      · rintro σ H' ⟨o, v, u, ds, rfl, ho, rfl, hd⟩
        simp only [tSeq, tIfS, tOp, tVar, tC, tCB, tCons, tNil, rI0, rI, tTest, tRet, tRetN, tNext, tAsg, gName, gNil, gCons, gTup, gUnl, tLst, tTup, tCall, tMeth, tMake, tUn, rU, tAndV, tOrV, tNotV, tAnd, tOr, tNot, tIf, tB, tFld, tDrop, tPar, tNever, tBM, rAppend, tSl, tPart, tNoPart, tM1, tyLst, List.getElem?_cons_zero, List.getElem?_cons_succ, Option.some.injEq, exists_eq_left', exists_eq_left, V.int.injEq, V.bl.injEq, V.str.injEq, V.ref.injEq, List.set_cons_zero, List.set_cons_succ, exists_and_left, exists_and_right, and_assoc, List.cons.injEq, and_true, true_and, List.cons_append, List.nil_append, List.append_nil, List.length_cons, List.length_nil, exists_eq', exists_eq, exists_const, exists_eq_right, exists_eq_right', cxK, Cx.nox, Cx.wish]
        rw [Int.toNat_natCast, List.take_length] at hd
        exact q ds p hd hp

/-! ### _law_names -/
/-- names as a world may have them -/
structure Good (ns : List Str) : Prop where
  each : ∀ n ∈ ns, ∃ k, Let n k ∧ 1 ≤ k ∧ k ≤ 6
  nd : ns.Nodup
def spNames (K : PySem.W.Frag) : Sp := fun vs H Q _ => ∃ (l : Addr) (ns : List Int) (k m : Int), vs = [.ref l, .int k, .int m] ∧ SqL K H l (ns.map V.int) ∧ ns.length ≤ 63 ∧ 0 ≤ k ∧ k < 900000 ∧ 0 ≤ m ∧ m ≤ 12 ∧
  ∀ (zs : List Str) (p : Addr) H', Good zs → (zs.length : Int) = m → Ext H H' → H' p = some (.lst (zs.map V.str)) → H p = none → Q (.ref p) H'
theorem ok_l_names (T : Tx a K mg w) : FnOk P w K mg base CX0 3 a.f_l_names a.d_l_names ps_l_names (spNames K) := by
  refine T.F_l_names.ok sc_l_names (fun vs H Q E h => ?_) (fun cdv A outer s H vs Q E hr h => ?_)
  · obtain ⟨l, ns, k, m, rfl, _⟩ := h
    rfl
  · obtain ⟨l, ns, k, m, rfl, hs, hn, h0, h1, m0, m1, q⟩ := h
    have G_l_digits := ok_l_digits (P := P) (w := w) (base := base) T
    have B_l_digits := bnd_l_digits T
    have hr_l_digits : Room 2 _ := hr.mono (by decide)
    refine ⟨_, (pss_cons (ps_asg (pe_tup (pa_cons (pe_lst pa_nil) (pa_cons pe_str pa_nil))) (pg_tup rfl (pgs_cons (pg_name (i := 3) sc_l_names.nd rfl (by first | exact Or.inl rfl | exact Or.inr rfl)) (pgs_cons (pg_name (i := 4) sc_l_names.nd rfl (by first | exact Or.inl rfl | exact Or.inr rfl)) pgs_nil)) (by rfl)))
      (pss_cons (ps_for PassesOwn.never rfl (pi_range1 rfl T.no_range (pa_cons (pv 2) pa_nil)) (pg_name (i := 5) sc_l_names.nd rfl (by first | exact Or.inl rfl | exact Or.inr rfl))
        (pss_cons (ps_asg (pe_call G_l_digits hr_l_digits (by rfl) T.mg_l_digits T.F_l_digits.kp B_l_digits .nil pass0 (pa_cons (pv 0) (pa_cons (pe_op op_add (pv 1) (pe_op op_mod (pv 5) pe_int)) (pa_cons (pe_lst (pa_cons pe_int (pa_cons pe_int (pa_cons pe_int (pa_cons pe_int pa_nil))))) pa_nil)))) (pg_unl rfl (pgs_cons (pg_name (i := 6) sc_l_names.nd rfl (by first | exact Or.inl rfl | exact Or.inr rfl)) (pgs_cons (pg_name (i := 7) sc_l_names.nd rfl (by first | exact Or.inl rfl | exact Or.inr rfl)) (pgs_cons (pg_name (i := 8) sc_l_names.nd rfl (by first | exact Or.inl rfl | exact Or.inr rfl)) (pgs_cons (pg_name (i := 9) sc_l_names.nd rfl (by first | exact Or.inl rfl | exact Or.inr rfl)) pgs_nil)))) (by rfl)))
        (pss_cons (ps_set (i := 10) sc_l_names.nd rfl (by first | exact Or.inl rfl | exact Or.inr rfl) (pe_joinN pe_str (pe_lc (own := [("_law_i", 12)]) rfl sc_l_names.nd (pi_range1 rfl T.no_range (pa_cons (pv 8) pa_nil)) (blkOk_by (own := [("_law_i", 12)]) (N := N_l_names) (sc := defScope s_l_names) (by decide +kernel)) (fun _ _ _ _ _ => (pg_name (i := 12) sc_l_names.nd rfl (Or.inl rfl))) (fun _ _ _ _ _ => pts_nil) (fun _ _ _ _ _ => (pe_ix ix_str (pv 4) (pe_op op_mod (pe_op op_add (pe_op op_add (pv 6) (pe_op op_mulW (pv 12) (pv 7))) (pe_op op_mulW pe_int (pv 5))) pe_int) (fun _ _ => rfl))))))
        (pss_cons (ps_set (i := 11) sc_l_names.nd rfl (by first | exact Or.inl rfl | exact Or.inr rfl) (pe_op op_add_str (pe_op op_add_str (pe_slice sl_str (pv 10) po_none (po_some (pv 9))) (pe_ix ix_str (pv 4) (pe_op op_mod (pe_op op_add (pe_op op_add (pv 6) (pe_op op_mulW pe_int (pv 5))) pe_int) pe_int) (fun _ _ => rfl))) (pe_slice sl_str (pv 10) (po_some (pv 9)) po_none)))
        (pss_cons (ps_if (pt_cmpR op_in_seq (pv 11) (pv 3) (by rfl)) (pss_one (ps_set (i := 11) sc_l_names.nd rfl (by first | exact Or.inl rfl | exact Or.inr rfl) (pe_ix ix_list (pe_lc (own := [("_law_tail", 13)]) rfl sc_l_names.nd (pi_str pe_str) (blkOk_by (own := [("_law_tail", 13)]) (N := N_l_names) (sc := defScope s_l_names) (by decide +kernel)) (fun _ _ _ _ _ => (pg_name (i := 13) sc_l_names.nd rfl (Or.inl rfl))) (fun _ _ _ _ _ => (pts_one (pt_cmpR (notInK (K := K) rfl) (pe_op op_add_str (pe_op op_add_str pe_str (pe_ix ix_str (pv 4) (pv 5) (fun _ _ => rfl))) (pv 13)) (pv 3) (by rfl)))) (fun _ _ _ _ _ => (pe_op op_add_str (pe_op op_add_str pe_str (pe_ix ix_str (pv 4) (pv 5) (fun _ _ => rfl))) (pv 13)))) pe_int (fun _ _ => rfl)))) pss_nil)
        (pss_one (ps_expr (pe_bm PySem.F.plainAttrs_list PySem.F.slot_list_append PySem.F.type_list_append mt_append (pv 3) (pa_cons (pv 11) pa_nil)))))))))
      (pss_one (ps_ret (pv 3))))), ?_⟩
    show tSeq _ _ _ (L2.start N_l_names _) H
    refine seq_i fun N hN => ?_
    simp only [tSeq, tIfS, tOp, tVar, tC, tCB, tCons, tNil, rI0, rI, tTest, tRet, tRetN, tNext, tAsg, gName, gNil, gCons, gTup, gUnl, tLst, tTup, tCall, tMeth, tMake, tUn, rU, tAndV, tOrV, tNotV, tAnd, tOr, tNot, tIf, tB, tFld, tDrop, tPar, tNever, tBM, rAppend, tSl, tPart, tNoPart, tM1, tyLst, List.getElem?_cons_zero, List.getElem?_cons_succ, Option.some.injEq, exists_eq_left', exists_eq_left, V.int.injEq, V.bl.injEq, V.str.injEq, V.ref.injEq, List.set_cons_zero, List.set_cons_succ, exists_and_left, exists_and_right, and_assoc, List.cons.injEq, and_true, true_and, List.cons_append, List.nil_append, List.append_nil, List.length_cons, List.length_nil, exists_eq', exists_eq, exists_const, exists_eq_right, exists_eq_right', cxK, Cx.nox, Cx.wish]
    refine ⟨by decide, fun pf hpf => ⟨by decide, fun pt hpt => ?_⟩⟩
    generalize hH1 : upd H pf _ = H1 at hpt ⊢
    obtain ⟨e1, f1⟩ := alloc hpf hH1
    generalize hH2 : upd H1 pt _ = H2
    obtain ⟨e2, f2⟩ := alloc hpt hH2
    refine ⟨_, ofT f2, rfl, _, _, rfl, _, _, rfl, rfl, hN _ _ ?_⟩
    clear hN N
    have eH2 : Ext H H2 := e1.trans e2
    have fp2 : H2 pf = some (.lst []) := e2 _ _ f1
    clear hH1 hH2 f2 hpt e1 e2 f1
    refine seq_i fun N hN => ?_
    refine for_rangeI (n := m) (fun R r => ⟨_, rfl, r⟩) m0 (by omega) (fun j σ H' => (∃ v5 v6 v7 v8 v9 v10 v11 v12 v13, σ = [some (V.ref l), some (V.int k), some (V.int m), some (V.ref pf), some (V.str abc), v5, v6, v7, v8, v9, v10, v11, v12, v13]) ∧
        Ext H H' ∧ ∃ zs : List Str, Good zs ∧ zs.length = j ∧ H' pf = some (.lst (zs.map V.str)))
      ⟨⟨none, none, none, none, none, none, none, none, none, rfl⟩, eH2, [], ⟨fun n hn => absurd hn List.not_mem_nil, List.nodup_nil⟩, rfl, fp2⟩ ?_ ?_
    · rintro j σ H3 hj ⟨⟨v5, v6, v7, v8, v9, v10, v11, v12, v13, rfl⟩, eH, zs, hg, hl, hf⟩
      have hjm : (j : Int) < m := by omega
      show tSeq _ _ _ [some (V.ref l), some (V.int k), some (V.int m), some (V.ref pf), some (V.str abc), some (V.int (0 + (j : Int))), v6, v7, v8, v9, v10, v11, v12, v13] H3
      clear hN
      refine seq_i fun N2 hN2 => ?_
      simp only [tSeq, tIfS, tOp, tVar, tC, tCB, tCons, tNil, rI0, rI, tTest, tRet, tRetN, tNext, tAsg, gName, gNil, gCons, gTup, gUnl, tLst, tTup, tCall, tMeth, tMake, tUn, rU, tAndV, tOrV, tNotV, tAnd, tOr, tNot, tIf, tB, tFld, tDrop, tPar, tNever, tBM, rAppend, tSl, tPart, tNoPart, tM1, tyLst, List.getElem?_cons_zero, List.getElem?_cons_succ, Option.some.injEq, exists_eq_left', exists_eq_left, V.int.injEq, V.bl.injEq, V.str.injEq, V.ref.injEq, List.set_cons_zero, List.set_cons_succ, exists_and_left, exists_and_right, and_assoc, List.cons.injEq, and_true, true_and, List.cons_append, List.nil_append, List.append_nil, List.length_cons, List.length_nil, exists_eq', exists_eq, exists_const, exists_eq_right, exists_eq_right', cxK, Cx.nox, Cx.wish]
      refine ⟨by decide, by decide, fun ps hps => ?_⟩
      generalize hH4 : upd H3 ps _ = H4
      obtain ⟨e4, f4⟩ := alloc hps hH4
      refine ⟨l, ps, ns, [26, 26, 6, 5], _, rfl, seqL hs (eH.trans e4), hn, by omega, by omega, ofL f4, (by decide), (by decide), fun ds pd hd hpd => ?_⟩
      obtain ⟨one, two, size, place, rfl, ⟨o0, o1⟩, ⟨w0, w1⟩, ⟨s0, s1⟩, ⟨q0, q1⟩⟩ := drawn4 hd
      generalize hH5 : upd H4 pd _ = H5
      obtain ⟨e5, f5⟩ := alloc hpd hH5
      refine ⟨pd, rfl, _, ofL f5, rfl, ?_⟩
      simp only [List.map_cons, List.map_nil, tSeq, tIfS, tOp, tVar, tC, tCB, tCons, tNil, rI0, rI, tTest, tRet, tRetN, tNext, tAsg, gName, gNil, gCons, gTup, gUnl, tLst, tTup, tCall, tMeth, tMake, tUn, rU, tAndV, tOrV, tNotV, tAnd, tOr, tNot, tIf, tB, tFld, tDrop, tPar, tNever, tBM, rAppend, tSl, tPart, tNoPart, tM1, tyLst, List.getElem?_cons_zero, List.getElem?_cons_succ, Option.some.injEq, exists_eq_left', exists_eq_left, V.int.injEq, V.bl.injEq, V.str.injEq, V.ref.injEq, List.set_cons_zero, List.set_cons_succ, exists_and_left, exists_and_right, and_assoc, List.cons.injEq, and_true, true_and, List.cons_append, List.nil_append, List.append_nil, List.length_cons, List.length_nil, exists_eq', exists_eq, exists_const, exists_eq_right, exists_eq_right', cxK, Cx.nox, Cx.wish]
      refine hN2 _ _ ?_
      clear hN2 N2
      have e35 : Ext H3 H5 := e4.trans e5
      clear hH4 hH5 e4 e5 f4 f5 hps hpd hd
      -- rest
      refine seq_i fun N2 hN2 => ?_
      simp only [rJoinN, tSeq, tIfS, tOp, tVar, tC, tCB, tCons, tNil, rI0, rI, tTest, tRet, tRetN, tNext, tAsg, gName, gNil, gCons, gTup, gUnl, tLst, tTup, tCall, tMeth, tMake, tUn, rU, tAndV, tOrV, tNotV, tAnd, tOr, tNot, tIf, tB, tFld, tDrop, tPar, tNever, tBM, rAppend, tSl, tPart, tNoPart, tM1, tyLst, List.getElem?_cons_zero, List.getElem?_cons_succ, Option.some.injEq, exists_eq_left', exists_eq_left, V.int.injEq, V.bl.injEq, V.str.injEq, V.ref.injEq, List.set_cons_zero, List.set_cons_succ, exists_and_left, exists_and_right, and_assoc, List.cons.injEq, and_true, true_and, List.cons_append, List.nil_append, List.append_nil, List.length_cons, List.length_nil, exists_eq', exists_eq, exists_const, exists_eq_right, exists_eq_right', cxK, Cx.nox, Cx.wish]
      refine tLc_i (J := Itr 0 size.toNat) (fun R r => ⟨_, rfl, _, rfl, by omega, by omega, r⟩) walk_range fun D hD => ?_
      refine ⟨fun i H' => ∃ ys : List Str, H' = upd H5 D (.lst (ys.map V.str)) ∧ ys.length = i ∧ ∀ y ∈ ys, Let y 1, ⟨[], rfl, rfl, fun y hy => absurd hy List.not_mem_nil⟩, fun _ _ _ _ => trivial, ?_, ?_⟩
      · rintro i x H6 H7 hi ⟨ys, rfl, hy, hall⟩ ⟨rfl, rfl⟩
        have ew : wipe [some (V.ref l), some (V.int k), some (V.int m), some (V.ref pf), some (V.str abc), some (V.int (0 + (j : Int))), some (V.int one), some (V.int two), some (V.int size), some (V.int place), v10, v11, v12, v13] (List.map (fun x => x.snd) [((Str.ofString "_law_i" : Str), 12)]) =
          [some (V.ref l), some (V.int k), some (V.int m), some (V.ref pf), some (V.str abc), some (V.int (0 + (j : Int))), some (V.int one), some (V.int two), some (V.int size), some (V.int place), v10, v11, none, v13] := rfl
        refine ⟨rfl, ?_⟩
        simp only [ew, tYes, rIxS, tSeq, tIfS, tOp, tVar, tC, tCB, tCons, tNil, rI0, rI, tTest, tRet, tRetN, tNext, tAsg, gName, gNil, gCons, gTup, gUnl, tLst, tTup, tCall, tMeth, tMake, tUn, rU, tAndV, tOrV, tNotV, tAnd, tOr, tNot, tIf, tB, tFld, tDrop, tPar, tNever, tBM, rAppend, tSl, tPart, tNoPart, tM1, tyLst, List.getElem?_cons_zero, List.getElem?_cons_succ, Option.some.injEq, exists_eq_left', exists_eq_left, V.int.injEq, V.bl.injEq, V.str.injEq, V.ref.injEq, List.set_cons_zero, List.set_cons_succ, exists_and_left, exists_and_right, and_assoc, List.cons.injEq, and_true, true_and, List.cons_append, List.nil_append, List.append_nil, List.length_cons, List.length_nil, exists_eq', exists_eq, exists_const, exists_eq_right, exists_eq_right', cxK, Cx.nox, Cx.wish]
        have hq := abc_at (k := (one + (0 + (i : Int)) * two + 3 * (0 + (j : Int))) % 26) (Int.emod_nonneg _ (by decide)) (Int.emod_lt_of_pos _ (by decide))
        refine ⟨mulW64 (by omega) (by omega), mulW64 (by decide) (by omega), by decide, by decide, _, hq.1, _, upd_same, ?_, ys ++ [⟨#[97 + ((one + (0 + (i : Int)) * two + 3 * (0 + (j : Int))) % 26).toNat]⟩], ?_, ?_, ?_⟩
        · rw [List.length_map]
          have : sizeLine = 16777216 := rfl
          omega
        · rw [upd_upd, List.map_append]
          rfl
        · rw [List.length_append, hy]
          rfl
        · intro y hy2
          rcases List.mem_append.mp hy2 with h | h
          · exact hall y h
          · rw [List.mem_singleton.mp h]
            exact Let.one hq.2
      · rintro H6 ⟨ys, rfl, hy, hall⟩
        have hsum : (ys.map (·.length)).sum = ys.length := by
          clear hy
          induction ys with
          | nil => rfl
          | cons y ys ih =>
            rw [List.map_cons, List.sum_cons, ih fun z hz => hall z (List.mem_cons_of_mem _ hz), (hall y List.mem_cons_self).len, List.length_cons]
            omega
        refine ⟨D, rfl, ys, .inl (ofL upd_same), ?_, hN2 _ _ ?_⟩
        · have e0 : (Str.ofString "").length = 0 := by decide +kernel
          show (ys.map (·.length)).sum + ys.length * (Str.ofString "").length ≤ 16777216
          rw [hsum, e0]
          omega
        clear hN2 N2
        have hr0 : Let (PySem.Txt.join (Str.ofString "") ys) ys.length := by
          rw [show Str.ofString "" = Str.empty by decide +kernel]
          exact join_let ys hall
        generalize PySem.Txt.join (Str.ofString "") ys = rest at hr0 ⊢
        have hz : ys.length ≤ 5 := by omega
        generalize ys.length = n5 at hr0 hz
        generalize hH6 : upd H5 D _ = H6
        have e36 : Ext H3 H6 := hH6 ▸ e35.trans (Ext.upd hD)
        clear hH6 hD hsum hall hy ys
        -- name
        refine seq_i fun N2 hN2 => ?_
        simp only [rSlS, rIxS, tSeq, tIfS, tOp, tVar, tC, tCB, tCons, tNil, rI0, rI, tTest, tRet, tRetN, tNext, tAsg, gName, gNil, gCons, gTup, gUnl, tLst, tTup, tCall, tMeth, tMake, tUn, rU, tAndV, tOrV, tNotV, tAnd, tOr, tNot, tIf, tB, tFld, tDrop, tPar, tNever, tBM, rAppend, tSl, tPart, tNoPart, tM1, tyLst, List.getElem?_cons_zero, List.getElem?_cons_succ, Option.some.injEq, exists_eq_left', exists_eq_left, V.int.injEq, V.bl.injEq, V.str.injEq, V.ref.injEq, List.set_cons_zero, List.set_cons_succ, exists_and_left, exists_and_right, and_assoc, List.cons.injEq, and_true, true_and, List.cons_append, List.nil_append, List.append_nil, List.length_cons, List.length_nil, exists_eq', exists_eq, exists_const, exists_eq_right, exists_eq_right', cxK, Cx.nox, Cx.wish]
        have hz16 : sizeLine = 16777216 := rfl
        have hq := abc_at (k := (one + 7 * (0 + (j : Int)) + 11) % 26) (Int.emod_nonneg _ (by decide)) (Int.emod_lt_of_pos _ (by decide))
        have hpl : place = ((place.toNat : Nat) : Int) := by omega
        have hc := hr0.cut place.toNat
        rw [← hpl] at hc
        have hnm := (hc.1.app (Let.one hq.2)).app hc.2
        refine ⟨by rw [hr0.len]; omega, mulW64 (by decide) (by omega), by decide, by decide, _, hq.1, ?_, by rw [hr0.len]; omega, ?_, hN2 _ _ ?_⟩
        · rw [hc.1.len, (Let.one hq.2).len]
          omega
        · rw [(hc.1.app (Let.one hq.2)).len, hc.2.len]
          omega
        clear hN2 N2
        generalize cutS rest none (some place) ++ _ ++ _ = name at hnm ⊢
        -- a name that is taken
        refine seq_i fun N2 hN2 => ?_
        simp only [rIn, tSeq, tIfS, tOp, tVar, tC, tCB, tCons, tNil, rI0, rI, tTest, tRet, tRetN, tNext, tAsg, gName, gNil, gCons, gTup, gUnl, tLst, tTup, tCall, tMeth, tMake, tUn, rU, tAndV, tOrV, tNotV, tAnd, tOr, tNot, tIf, tB, tFld, tDrop, tPar, tNever, tBM, rAppend, tSl, tPart, tNoPart, tM1, tyLst, List.getElem?_cons_zero, List.getElem?_cons_succ, Option.some.injEq, exists_eq_left', exists_eq_left, V.int.injEq, V.bl.injEq, V.str.injEq, V.ref.injEq, List.set_cons_zero, List.set_cons_succ, exists_and_left, exists_and_right, and_assoc, List.cons.injEq, and_true, true_and, List.cons_append, List.nil_append, List.append_nil, List.length_cons, List.length_nil, exists_eq', exists_eq, exists_const, exists_eq_right, exists_eq_right', cxK, Cx.nox, Cx.wish]
        suffices fin : ∀ (nm : Str) (v13' : Option V) (H7 : Hp), Ext H3 H7 → (∃ k, Let nm k ∧ 1 ≤ k ∧ k ≤ 6) → nm ∉ zs → N2 [some (V.ref l), some (V.int k), some (V.int m), some (V.ref pf), some (V.str abc), some (V.int (0 + (j : Int))), some (V.int one), some (V.int two), some (V.int size), some (V.int place), some (V.str rest), some (V.str nm), v12, v13'] H7 by
          refine ⟨_, .inl (ofL (e36 _ _ hf)), rfl, flat_strs zs, ite2 (fun ht => ?_) (fun ht => ?_)⟩
          · have hc1 : Low (97 + j) := by unfold Low; omega
            have hat : atI abc.cps.toList (0 + (j : Int)) = some (97 + j) := by
              have := (abc_at (k := 0 + (j : Int)) (by omega) (by omega)).1
              rw [this]
              congr 1
              omega
            have ez : (Str.ofString "z").length = 1 := by decide +kernel
            refine tLc_i (J := Its tails) (fun R r => ⟨_, rfl, r⟩) walk_str fun D hD => ?_
            have fD : ∀ u, upd H6 D u pf = some (.lst (zs.map V.str)) := fun u => (Ext.upd hD) _ _ (e36 _ _ hf)
            refine ⟨fun i H' => ∃ ys : List Str, H' = upd H6 D (.lst (ys.map V.str)) ∧ ys.length ≤ i ∧ (∀ y ∈ ys, (∃ k, Let y k ∧ 1 ≤ k ∧ k ≤ 6) ∧ y ∉ zs) ∧ (ys = [] → ∀ t, t < i → cand (97 + j) t ∈ zs),
              ⟨[], rfl, Nat.le_refl _, fun y hy => absurd hy List.not_mem_nil, fun _ t ht => absurd ht (Nat.not_lt_zero _)⟩, fun _ _ _ _ => trivial, ?_, ?_⟩
            · rintro i x H7 H8 hi ⟨ys, rfl, hy, hall, hno⟩ ⟨rfl, cc, hcc, rfl⟩
              obtain ⟨hi12, rfl⟩ := tails_at hcc
              have ew : wipe [some (V.ref l), some (V.int k), some (V.int m), some (V.ref pf), some (V.str abc), some (V.int (0 + (j : Int))), some (V.int one), some (V.int two), some (V.int size), some (V.int place), some (V.str rest), some (V.str name), v12, v13] (List.map (fun x => x.snd) [((Str.ofString "_law_tail" : Str), 13)]) =
                [some (V.ref l), some (V.int k), some (V.int m), some (V.ref pf), some (V.str abc), some (V.int (0 + (j : Int))), some (V.int one), some (V.int two), some (V.int size), some (V.int place), some (V.str rest), some (V.str name), v12, none] := rfl
              refine ⟨rfl, ?_⟩
              simp only [ew, rIxS, rIn, tSeq, tIfS, tOp, tVar, tC, tCB, tCons, tNil, rI0, rI, tTest, tRet, tRetN, tNext, tAsg, gName, gNil, gCons, gTup, gUnl, tLst, tTup, tCall, tMeth, tMake, tUn, rU, tAndV, tOrV, tNotV, tAnd, tOr, tNot, tIf, tB, tFld, tDrop, tPar, tNever, tBM, rAppend, tSl, tPart, tNoPart, tM1, tyLst, List.getElem?_cons_zero, List.getElem?_cons_succ, Option.some.injEq, exists_eq_left', exists_eq_left, V.int.injEq, V.bl.injEq, V.str.injEq, V.ref.injEq, List.set_cons_zero, List.set_cons_succ, exists_and_left, exists_and_right, and_assoc, List.cons.injEq, and_true, true_and, List.cons_append, List.nil_append, List.append_nil, List.length_cons, List.length_nil, exists_eq', exists_eq, exists_const, exists_eq_right, exists_eq_right', cxK, Cx.nox, Cx.wish]
              have l1 : ∀ x, (Str.ofString "z").length + (⟨#[x]⟩ : Str).length ≤ sizeLine := fun x => by rw [ez]; show 1 + 1 ≤ sizeLine; decide
              have l2 : ∀ x y, (Str.ofString "z" ++ (⟨#[x]⟩ : Str)).length + (⟨#[y]⟩ : Str).length ≤ sizeLine := fun x y => by rw [strLen_append, ez]; show 1 + 1 + 1 ≤ sizeLine; decide
              refine ⟨by decide, _, hat, l1 _, l2 _ _, _, .inl (ofL (fD _)), rfl, flat_strs zs, ?_⟩
              rw [cand_app]
              refine ite2 (fun hb => ?_) (fun hb => ?_)
              · have hni : cand (97 + j) i ∉ zs := fun z => by
                  have hb2 : (!inV (V.str (cand (97 + j) i)) (zs.map V.str)) = true := hb
                  rw [in_strs.mpr z] at hb2
                  cases hb2
                refine ⟨by decide, _, hat, l1 _, l2 _ _, _, upd_same, ?_, ys ++ [cand (97 + j) i], ?_, ?_, ?_, ?_⟩
                · rw [List.length_map]
                  omega
                · rw [upd_upd, List.map_append, cand_app]
                  rfl
                · rw [List.length_append]
                  show ys.length + 1 ≤ i + 1
                  omega
                · intro y hy2
                  rcases List.mem_append.mp hy2 with h | h
                  · exact hall y h
                  · rw [List.mem_singleton.mp h]
                    exact ⟨⟨3, cand_let hc1 hi12, by decide, by decide⟩, hni⟩
                · intro e
                  simp at e
              · have hin : cand (97 + j) i ∈ zs := by
                  cases hq2 : inV (V.str (cand (97 + j) i)) (zs.map V.str) with
                  | true => exact in_strs.mp hq2
                  | false =>
                    refine (hb ?_).elim
                    show (!inV (V.str (cand (97 + j) i)) (zs.map V.str)) = true
                    rw [hq2]
                    rfl
                refine ⟨ys, rfl, by omega, hall, fun e t ht => ?_⟩
                rcases Nat.lt_or_ge t i with h | h
                · exact hno e t h
                · obtain rfl : t = i := by omega
                  exact hin
            · rintro H7 ⟨ys, rfl, hy, hall, hno⟩
              rw [tails_size] at hno
              cases ys with
              | nil => exact absurd (hno rfl) (cand_free (by omega))
              | cons y ys =>
                have hy1 := hall y List.mem_cons_self
                exact ⟨D, _, 0, _, rfl, rfl, ofL upd_same, atI_0, fin y v13 _ (e36.trans (Ext.upd hD)) hy1.1 hy1.2⟩
          · exact fin name v13 H6 e36 ⟨_, hnm, by omega, by omega⟩ fun z => ht (in_strs.mpr z)
        intro nm v13' H7 e37 hlet hni
        refine hN2 _ _ ?_
        clear hN2 N2
        simp only [tSeq, tIfS, tOp, tVar, tC, tCB, tCons, tNil, rI0, rI, tTest, tRet, tRetN, tNext, tAsg, gName, gNil, gCons, gTup, gUnl, tLst, tTup, tCall, tMeth, tMake, tUn, rU, tAndV, tOrV, tNotV, tAnd, tOr, tNot, tIf, tB, tFld, tDrop, tPar, tNever, tBM, rAppend, tSl, tPart, tNoPart, tM1, tyLst, List.getElem?_cons_zero, List.getElem?_cons_succ, Option.some.injEq, exists_eq_left', exists_eq_left, V.int.injEq, V.bl.injEq, V.str.injEq, V.ref.injEq, List.set_cons_zero, List.set_cons_succ, exists_and_left, exists_and_right, and_assoc, List.cons.injEq, and_true, true_and, List.cons_append, List.nil_append, List.append_nil, List.length_cons, List.length_nil, exists_eq', exists_eq, exists_const, exists_eq_right, exists_eq_right', cxK, Cx.nox, Cx.wish]
        have e7 := e37 _ _ hf
        refine ⟨tyLst e7, _, e7, by rw [List.length_map]; omega, upd_ext (eH.trans e37) hpf, zs ++ [nm], ⟨?_, ?_⟩, ?_, ?_⟩
        · intro n hn2
          rcases List.mem_append.mp hn2 with h | h
          · exact hg.each n h
          · rw [List.mem_singleton.mp h]
            exact hlet
        · exact List.nodup_append.mpr ⟨hg.nd, by simp, fun x hx y hy e => by
            rw [List.mem_singleton.mp hy] at e
            exact hni (e ▸ hx)⟩
        · rw [List.length_append, hl]
          rfl
        · rw [upd_same, List.map_append]
          rfl
    · rintro σ H3 ⟨⟨v5, v6, v7, v8, v9, v10, v11, v12, v13, rfl⟩, eH, zs, hg, hl, hf⟩
      refine hN _ _ ?_
      simp only [tSeq, tIfS, tOp, tVar, tC, tCB, tCons, tNil, rI0, rI, tTest, tRet, tRetN, tNext, tAsg, gName, gNil, gCons, gTup, gUnl, tLst, tTup, tCall, tMeth, tMake, tUn, rU, tAndV, tOrV, tNotV, tAnd, tOr, tNot, tIf, tB, tFld, tDrop, tPar, tNever, tBM, rAppend, tSl, tPart, tNoPart, tM1, tyLst, List.getElem?_cons_zero, List.getElem?_cons_succ, Option.some.injEq, exists_eq_left', exists_eq_left, V.int.injEq, V.bl.injEq, V.str.injEq, V.ref.injEq, List.set_cons_zero, List.set_cons_succ, exists_and_left, exists_and_right, and_assoc, List.cons.injEq, and_true, true_and, List.cons_append, List.nil_append, List.append_nil, List.length_cons, List.length_nil, exists_eq', exists_eq, exists_const, exists_eq_right, exists_eq_right', cxK, Cx.nox, Cx.wish]
      exact q zs pf H3 hg (by omega) eH hf hpf

/-! ### _law_world -/
structure OkRows (b : Int) (rs : List (Str × Int)) : Prop where
  good : Good (rs.map (·.1))
  num : ∀ r ∈ rs, 1 ≤ r.2 ∧ r.2 ≤ b
theorem pick5 {P : Int → Prop} {a b c d e k : Int} (h0 : 0 ≤ k) (h1 : k < 5) (pa : P a) (pb : P b) (pc : P c) (pd : P d) (pe : P e) : ∃ z, atI [V.int a, V.int b, V.int c, V.int d, V.int e] k = some (.int z) ∧ P z := by
  obtain ⟨v, e1, e2⟩ := atI_lt (xs := [V.int a, V.int b, V.int c, V.int d, V.int e]) h0 h1
  have hk : k.toNat < 5 := by omega
  generalize k.toNat = n at e1 hk
  rw [e2]
  match n, hk, e1 with
  | 0, _, e1 => exact ⟨a, e1.symm, pa⟩
  | 1, _, e1 => exact ⟨b, e1.symm, pb⟩
  | 2, _, e1 => exact ⟨c, e1.symm, pc⟩
  | 3, _, e1 => exact ⟨d, e1.symm, pd⟩
  | 4, _, e1 => exact ⟨e, e1.symm, pe⟩
theorem Good.upto {zs : List Str} {j : Nat} (g : Good zs) : Good (zs.take j) := ⟨fun n hn => g.each n (List.mem_of_mem_take hn), g.nd.sublist (List.take_sublist _ _)⟩
def spWorld (K : PySem.W.Frag) : Sp := fun vs H Q _ => ∃ (l : Addr) (ns : List Int) (k c h : Int), vs = [.ref l, .int k, .int c, .int h] ∧ SqL K H l (ns.map V.int) ∧ ns.length ≤ 63 ∧ 0 ≤ k ∧ k < 800000 ∧ 1 ≤ c ∧ c ≤ 8 ∧ 1 ≤ h ∧ h ≤ 8 ∧
  ∀ (rs rs2 : List (Str × Int)) (p p2 pt : Addr) H', OkRows 1000000000 rs → OkRows 1000000 rs2 → (rs.length : Int) = c → (rs2.length : Int) = h → Ext H H' → RowsAt H' p rs → RowsAt H' p2 rs2 → H' pt = some (.tup [.ref p, .ref p2]) → Q (.ref pt) H'
theorem ok_l_world (T : Tx a K mg w) : FnOk P w K mg base CX0 4 a.f_l_world a.d_l_world ps_l_world (spWorld K) := by
  refine T.F_l_world.ok sc_l_world (fun vs H Q E h => ?_) (fun cdv A outer s H vs Q E hr h => ?_)
  · obtain ⟨l, ns, k, c, h, rfl, _⟩ := h
    rfl
  · obtain ⟨l, ns, k, c, h, rfl, hs, hn, h0, h1, c0, c1, g0, g1, q⟩ := h
    have G_l_digits := ok_l_digits (P := P) (w := w) (base := base) T
    have B_l_digits := bnd_l_digits T
    have hr_l_digits : Room 2 _ := hr.mono (by decide)
    have G_l_names := ok_l_names (P := P) (w := w) (base := base) T
    have B_l_names := bnd_l_names T
    have hr_l_names : Room 3 _ := hr.mono (by decide)
    refine ⟨_, (pss_cons (ps_par (i := 4) (j := 5) (by rfl) sc_l_world.nd rfl rfl (by decide) rfl rfl (pa_cons (pe_call G_l_names hr_l_names (by rfl) T.mg_l_names T.F_l_names.kp B_l_names .nil pass0 (pa_cons (pv 0) (pa_cons (pv 1) (pa_cons (pv 2) pa_nil)))) (pa_cons (pe_lst pa_nil) pa_nil)) (by rfl))
      (pss_cons (ps_for PassesOwn.never rfl (pi_range1 rfl T.no_range (pa_cons (pv 2) pa_nil)) (pg_name (i := 6) sc_l_world.nd rfl (by first | exact Or.inl rfl | exact Or.inr rfl))
        (pss_cons (ps_set (i := 7) sc_l_world.nd rfl (by first | exact Or.inl rfl | exact Or.inr rfl) (pe_call G_l_digits hr_l_digits (by rfl) T.mg_l_digits T.F_l_digits.kp B_l_digits .nil pass0 (pa_cons (pv 0) (pa_cons (pe_op op_add (pv 1) (pe_op op_mod (pv 6) pe_int)) (pa_cons (pe_lst (pa_cons pe_int (pa_cons pe_int (pa_cons pe_int pa_nil)))) pa_nil)))))
        (pss_one (ps_expr (pe_bm PySem.F.plainAttrs_list PySem.F.slot_list_append PySem.F.type_list_append mt_append (pv 5) (pa_cons (pe_tup (pa_cons (pe_ix ix_list (pv 4) (pv 6) (fun _ _ => rfl)) (pa_cons (pe_ix ix_list (pe_lst (pa_cons pe_int (pa_cons (pe_op op_add pe_int (pe_ix ix_list (pv 7) pe_int (fun _ _ => rfl))) (pa_cons pe_int (pa_cons pe_int (pa_cons (pe_op op_add pe_int (pe_op op_mulW (pe_ix ix_list (pv 7) pe_int (fun _ _ => rfl)) pe_int)) pa_nil)))))) (pe_op op_mod (pe_op op_add (pe_ix ix_list (pv 7) pe_int (fun _ _ => rfl)) (pv 6)) pe_int) (fun _ _ => rfl)) pa_nil))) pa_nil))))))
      (pss_cons (ps_par (i := 8) (j := 9) (by rfl) sc_l_world.nd rfl rfl (by decide) rfl rfl (pa_cons (pe_call G_l_names hr_l_names (by rfl) T.mg_l_names T.F_l_names.kp B_l_names .nil pass0 (pa_cons (pv 0) (pa_cons (pe_op op_add (pv 1) pe_int) (pa_cons (pv 3) pa_nil)))) (pa_cons (pe_lst pa_nil) pa_nil)) (by rfl))
      (pss_cons (ps_set (i := 10) sc_l_world.nd rfl (by first | exact Or.inl rfl | exact Or.inr rfl) (pe_call G_l_digits hr_l_digits (by rfl) T.mg_l_digits T.F_l_digits.kp B_l_digits .nil pass0 (pa_cons (pv 0) (pa_cons (pe_op op_add (pv 1) pe_int) (pa_cons (pe_lst (pa_cons pe_int (pa_cons pe_int (pa_cons pe_int pa_nil)))) pa_nil)))))
      (pss_cons (ps_for PassesOwn.never rfl (pi_range1 rfl T.no_range (pa_cons (pv 3) pa_nil)) (pg_name (i := 6) sc_l_world.nd rfl (by first | exact Or.inl rfl | exact Or.inr rfl))
        (pss_one (ps_expr (pe_bm PySem.F.plainAttrs_list PySem.F.slot_list_append PySem.F.type_list_append mt_append (pv 9) (pa_cons (pe_tup (pa_cons (pe_ix ix_list (pv 8) (pv 6) (fun _ _ => rfl)) (pa_cons (pe_ix ix_list (pe_lst (pa_cons pe_int (pa_cons (pe_op op_add (pe_op op_add pe_int (pe_ix ix_list (pv 10) pe_int (fun _ _ => rfl))) (pv 6)) (pa_cons pe_int (pa_cons pe_int (pa_cons pe_int pa_nil)))))) (pe_op op_mod (pe_op op_add (pe_ix ix_list (pv 10) pe_int (fun _ _ => rfl)) (pe_op op_mulW (pv 6) (pe_op op_add pe_int (pe_op op_mod (pe_ix ix_list (pv 10) pe_int (fun _ _ => rfl)) pe_int)))) pe_int) (fun _ _ => rfl)) pa_nil))) pa_nil)))))
      (pss_one (ps_ret (pe_tup (pa_cons (pv 5) (pa_cons (pv 9) pa_nil)))))))))), ?_⟩
    show tSeq _ _ _ [some (V.ref l), some (V.int k), some (V.int c), some (V.int h), none, none, none, none, none, none, none] H
    refine seq_i fun N hN => ?_
    simp only [tSeq, tIfS, tOp, tVar, tC, tCB, tCons, tNil, rI0, rI, tTest, tRet, tRetN, tNext, tAsg, gName, gNil, gCons, gTup, gUnl, tLst, tTup, tCall, tMeth, tMake, tUn, rU, tAndV, tOrV, tNotV, tAnd, tOr, tNot, tIf, tB, tFld, tDrop, tPar, tNever, tBM, rAppend, tSl, tPart, tNoPart, tM1, tyLst, List.getElem?_cons_zero, List.getElem?_cons_succ, Option.some.injEq, exists_eq_left', exists_eq_left, V.int.injEq, V.bl.injEq, V.str.injEq, V.ref.injEq, List.set_cons_zero, List.set_cons_succ, exists_and_left, exists_and_right, and_assoc, List.cons.injEq, and_true, true_and, List.cons_append, List.nil_append, List.append_nil, List.length_cons, List.length_nil, exists_eq', exists_eq, exists_const, exists_eq_right, exists_eq_right', cxK, Cx.nox, Cx.wish]
    refine ⟨l, ns, k, c, rfl, hs, hn, by omega, by omega, by omega, by omega, fun zs pf H1 hg hl e1 f1 _ => ⟨by decide, fun pr hpr => ?_⟩⟩
    generalize hH2 : upd H1 pr _ = H2
    obtain ⟨e2, f2⟩ := alloc hpr hH2
    clear hH2
    refine hN _ _ ?_
    clear hN N
    refine seq_i fun N hN => ?_
    refine for_rangeI (n := c) (fun R r => ⟨_, rfl, r⟩) (by omega) (by omega) (fun j σ H' => (∃ v6 v7 v8 v9 v10, σ = [some (V.ref l), some (V.int k), some (V.int c), some (V.int h), some (V.ref pf), some (V.ref pr), v6, v7, v8, v9, v10]) ∧
        Ext H1 H' ∧ ∃ (ts : List Addr) (rs : List (Str × Int)), H' pr = some (.lst (ts.map V.ref)) ∧ RowsIn H' ts rs ∧ rs.map (·.1) = zs.take j ∧ ∀ r ∈ rs, 1 ≤ r.2 ∧ r.2 ≤ 1000000000)
      ⟨⟨none, none, none, none, none, rfl⟩, e2, [], [], f2, .nil, rfl, fun r hr => absurd hr List.not_mem_nil⟩ ?_ ?_
    · rintro j σ H3 hj ⟨⟨v6, v7, v8, v9, v10, rfl⟩, eH, ts, rs, hf, hR, hm, hnum⟩
      have hjz : j < zs.length := by omega
      show tSeq _ _ _ [some (V.ref l), some (V.int k), some (V.int c), some (V.int h), some (V.ref pf), some (V.ref pr), some (V.int (0 + (j : Int))), v7, v8, v9, v10] H3
      clear hN
      refine seq_i fun N2 hN2 => ?_
      simp only [tSeq, tIfS, tOp, tVar, tC, tCB, tCons, tNil, rI0, rI, tTest, tRet, tRetN, tNext, tAsg, gName, gNil, gCons, gTup, gUnl, tLst, tTup, tCall, tMeth, tMake, tUn, rU, tAndV, tOrV, tNotV, tAnd, tOr, tNot, tIf, tB, tFld, tDrop, tPar, tNever, tBM, rAppend, tSl, tPart, tNoPart, tM1, tyLst, List.getElem?_cons_zero, List.getElem?_cons_succ, Option.some.injEq, exists_eq_left', exists_eq_left, V.int.injEq, V.bl.injEq, V.str.injEq, V.ref.injEq, List.set_cons_zero, List.set_cons_succ, exists_and_left, exists_and_right, and_assoc, List.cons.injEq, and_true, true_and, List.cons_append, List.nil_append, List.append_nil, List.length_cons, List.length_nil, exists_eq', exists_eq, exists_const, exists_eq_right, exists_eq_right', cxK, Cx.nox, Cx.wish]
      refine ⟨by decide, by decide, fun ps hps => ?_⟩
      generalize hH4 : upd H3 ps _ = H4
      obtain ⟨e4, f4⟩ := alloc hps hH4
      refine ⟨l, ps, ns, [9000, 5, 7], _, rfl, seqL hs (e1.trans (eH.trans e4)), hn, by omega, by omega, ofL f4, (by decide), (by decide), fun ds pd hd hpd => ?_⟩
      obtain ⟨u, v, w3, rfl, ⟨u0, u1⟩, ⟨q0, q1⟩, _⟩ := drawn3 hd
      generalize hH5 : upd H4 pd _ = H5
      obtain ⟨e5, f5⟩ := alloc hpd hH5
      refine hN2 _ _ ?_
      clear hN2 N2
      have e35 : Ext H3 H5 := e4.trans e5
      clear hH4 hH5 e4 e5 f4 hps hpd hd
      simp only [rIxL, List.map_cons, List.map_nil, tSeq, tIfS, tOp, tVar, tC, tCB, tCons, tNil, rI0, rI, tTest, tRet, tRetN, tNext, tAsg, gName, gNil, gCons, gTup, gUnl, tLst, tTup, tCall, tMeth, tMake, tUn, rU, tAndV, tOrV, tNotV, tAnd, tOr, tNot, tIf, tB, tFld, tDrop, tPar, tNever, tBM, rAppend, tSl, tPart, tNoPart, tM1, tyLst, List.getElem?_cons_zero, List.getElem?_cons_succ, Option.some.injEq, exists_eq_left', exists_eq_left, V.int.injEq, V.bl.injEq, V.str.injEq, V.ref.injEq, List.set_cons_zero, List.set_cons_succ, exists_and_left, exists_and_right, and_assoc, List.cons.injEq, and_true, true_and, List.cons_append, List.nil_append, List.append_nil, List.length_cons, List.length_nil, exists_eq', exists_eq, exists_const, exists_eq_right, exists_eq_right', cxK, Cx.nox, Cx.wish]
      have hat : atI (zs.map V.str) (0 + (j : Int)) = some (V.str zs[j]) := by
        rw [Int.zero_add]
        exact atI_map (Own.atI_nat (List.getElem?_eq_getElem hjz))
      have hpf := e35 _ _ (eH _ _ f1)
      have hpr3 := e35 _ _ hf
      refine ⟨tyLst hpr3, _, ofL hpf, _, hat, _, ofL f5, _, atI_0, u, rfl, _, ofL f5, _, atI_0, u, rfl, mulW64 (by omega) (by decide), by decide, fun pc hpc => ?_⟩
      obtain ⟨z, hz, z0, z1⟩ := pick5 (P := fun z => 1 ≤ z ∧ z ≤ 1000000000) (a := 1000) (b := 1 + u) (c := 1000000000) (d := 1) (e := 1 + u * 100000) (k := (v + (0 + (j : Int))) % 5) (Int.emod_nonneg _ (by decide)) (Int.emod_lt_of_pos _ (by decide)) ⟨by omega, by omega⟩ ⟨by omega, by omega⟩ ⟨by omega, by omega⟩ ⟨by omega, by omega⟩ ⟨by omega, by omega⟩
      generalize hH6 : upd H5 pc _ = H6
      obtain ⟨e6, f6⟩ := alloc hpc hH6
      refine ⟨_, ofL (e6 _ _ f5), _, atI_1, v, rfl, by decide, _, ofL f6, _, hz, by decide, fun pt hpt => ?_⟩
      generalize hH7 : upd H6 pt _ = H7
      obtain ⟨e7, f7⟩ := alloc hpt hH7
      have e37 : Ext H3 H7 := e35.trans (e6.trans e7)
      have hp7 := e37 _ _ hf
      have hlr : rs.length = j := by
        have := congrArg List.length hm
        rw [List.length_map, List.length_take] at this
        omega
      have hz16 : sizeLine = 16777216 := rfl
      refine ⟨_, hp7, by rw [List.length_map, hR.len]; omega, upd_ext (eH.trans e37) hpr, ts ++ [pt], ?_, rs ++ [(zs[j], z)], ((hR.ext e37).snoc f7).upd hp7, ?_, ?_⟩
      · rw [upd_same, List.map_append]
        rfl
      · rw [List.map_append, hm, take_snoc (List.getElem?_eq_getElem hjz)]
        rfl
      · intro r hr2
        rcases List.mem_append.mp hr2 with h | h
        · exact hnum r h
        · rw [List.mem_singleton.mp h]
          exact ⟨z0, z1⟩
    · rintro σ H3 ⟨⟨v6, v7, v8, v9, v10, rfl⟩, eH, ts, rs, hf, hR, hm, hnum⟩
      refine hN _ _ ?_
      clear hN N
      rw [List.take_of_length_le (by omega)] at hm
      have ok1 : OkRows 1000000000 rs := ⟨hm ▸ hg, hnum⟩
      have hl1 : (rs.length : Int) = c := by rw [← hl, ← hm, List.length_map]
      have e3 : Ext H H3 := e1.trans eH
      have R1 : RowsAt H3 pr rs := ⟨ts, hf, hR⟩
      clear hf hR hm hnum eH f2 e2 hpr H2 f1 e1 hl hg zs
      -- the houses
      refine seq_i fun N hN => ?_
      simp only [tSeq, tIfS, tOp, tVar, tC, tCB, tCons, tNil, rI0, rI, tTest, tRet, tRetN, tNext, tAsg, gName, gNil, gCons, gTup, gUnl, tLst, tTup, tCall, tMeth, tMake, tUn, rU, tAndV, tOrV, tNotV, tAnd, tOr, tNot, tIf, tB, tFld, tDrop, tPar, tNever, tBM, rAppend, tSl, tPart, tNoPart, tM1, tyLst, List.getElem?_cons_zero, List.getElem?_cons_succ, Option.some.injEq, exists_eq_left', exists_eq_left, V.int.injEq, V.bl.injEq, V.str.injEq, V.ref.injEq, List.set_cons_zero, List.set_cons_succ, exists_and_left, exists_and_right, and_assoc, List.cons.injEq, and_true, true_and, List.cons_append, List.nil_append, List.append_nil, List.length_cons, List.length_nil, exists_eq', exists_eq, exists_const, exists_eq_right, exists_eq_right', cxK, Cx.nox, Cx.wish]
      refine ⟨l, ns, k + 1, h, rfl, seqL hs e3, hn, by omega, by omega, by omega, by omega, fun zs pf2 H4 hg hl e4 f4 _ => ⟨by decide, fun pm hpm => ?_⟩⟩
      generalize hH5 : upd H4 pm _ = H5
      obtain ⟨e5, f5⟩ := alloc hpm hH5
      clear hH5
      refine hN _ _ ?_
      clear hN N
      refine seq_i fun N hN => ?_
      simp only [tSeq, tIfS, tOp, tVar, tC, tCB, tCons, tNil, rI0, rI, tTest, tRet, tRetN, tNext, tAsg, gName, gNil, gCons, gTup, gUnl, tLst, tTup, tCall, tMeth, tMake, tUn, rU, tAndV, tOrV, tNotV, tAnd, tOr, tNot, tIf, tB, tFld, tDrop, tPar, tNever, tBM, rAppend, tSl, tPart, tNoPart, tM1, tyLst, List.getElem?_cons_zero, List.getElem?_cons_succ, Option.some.injEq, exists_eq_left', exists_eq_left, V.int.injEq, V.bl.injEq, V.str.injEq, V.ref.injEq, List.set_cons_zero, List.set_cons_succ, exists_and_left, exists_and_right, and_assoc, List.cons.injEq, and_true, true_and, List.cons_append, List.nil_append, List.append_nil, List.length_cons, List.length_nil, exists_eq', exists_eq, exists_const, exists_eq_right, exists_eq_right', cxK, Cx.nox, Cx.wish]
      refine ⟨by decide, fun ps hps => ?_⟩
      generalize hH6 : upd H5 ps _ = H6
      obtain ⟨e6, f6⟩ := alloc hps hH6
      refine ⟨l, ps, ns, [3, 100, 7], _, rfl, seqL hs (e3.trans (e4.trans (e5.trans e6))), hn, by omega, by omega, ofL f6, (by decide), (by decide), fun ds pd hd hpd => ?_⟩
      obtain ⟨u, v, x, rfl, ⟨u0, u1⟩, ⟨q0, q1⟩, ⟨x0, x1⟩⟩ := drawn3 hd
      generalize hH7 : upd H6 pd _ = H7
      obtain ⟨e7, f7⟩ := alloc hpd hH7
      refine hN _ _ ?_
      clear hN N
      have e47 : Ext H4 H7 := e5.trans (e6.trans e7)
      have hf7 := e7 _ _ (e6 _ _ f5)
      clear hH6 hH7 e5 e6 e7 f6 hps hpd hd
      refine seq_i fun N hN => ?_
      refine for_rangeI (n := h) (fun R r => ⟨_, rfl, r⟩) (by omega) (by omega) (fun j σ H' => (∃ v6, σ = [some (V.ref l), some (V.int k), some (V.int c), some (V.int h), some (V.ref pf), some (V.ref pr), v6, v7, some (V.ref pf2), some (V.ref pm), some (V.ref pd)]) ∧
          Ext H4 H' ∧ H' pd = some (.lst ([u, v, x].map V.int)) ∧ ∃ (ts : List Addr) (rs : List (Str × Int)), H' pm = some (.lst (ts.map V.ref)) ∧ RowsIn H' ts rs ∧ rs.map (·.1) = zs.take j ∧ ∀ r ∈ rs, 1 ≤ r.2 ∧ r.2 ≤ 1000000)
        ⟨⟨_, rfl⟩, e47, f7, [], [], hf7, .nil, rfl, fun r hr => absurd hr List.not_mem_nil⟩ ?_ ?_
      · rintro j σ H8 hj ⟨⟨v6, rfl⟩, eH, fd, ts, rs2, hf, hR, hm, hnum⟩
        have hjz : j < zs.length := by omega
        have hat : atI (zs.map V.str) (0 + (j : Int)) = some (V.str zs[j]) := by
          rw [Int.zero_add]
          exact atI_map (Own.atI_nat (List.getElem?_eq_getElem hjz))
        have hat2 : atI (List.map V.int [u, v, x]) 2 = some (.int x) := rfl
        simp only [rIxL, tSeq, tIfS, tOp, tVar, tC, tCB, tCons, tNil, rI0, rI, tTest, tRet, tRetN, tNext, tAsg, gName, gNil, gCons, gTup, gUnl, tLst, tTup, tCall, tMeth, tMake, tUn, rU, tAndV, tOrV, tNotV, tAnd, tOr, tNot, tIf, tB, tFld, tDrop, tPar, tNever, tBM, rAppend, tSl, tPart, tNoPart, tM1, tyLst, List.getElem?_cons_zero, List.getElem?_cons_succ, Option.some.injEq, exists_eq_left', exists_eq_left, V.int.injEq, V.bl.injEq, V.str.injEq, V.ref.injEq, List.set_cons_zero, List.set_cons_succ, exists_and_left, exists_and_right, and_assoc, List.cons.injEq, and_true, true_and, List.cons_append, List.nil_append, List.append_nil, List.length_cons, List.length_nil, exists_eq', exists_eq, exists_const, exists_eq_right, exists_eq_right', cxK, Cx.nox, Cx.wish]
        have hpf2 := eH _ _ f4
        refine ⟨tyLst hf, _, ofL hpf2, _, hat, _, ofL fd, _, atI_1, v, rfl, by decide, fun pc hpc => ?_⟩
        obtain ⟨z, hz, z0, z1⟩ := pick5 (P := fun z => 1 ≤ z ∧ z ≤ 1000000) (a := 100) (b := 10 + v + (0 + (j : Int))) (c := 1000000) (d := 7) (e := 3) (k := (u + (0 + (j : Int)) * (1 + x % 3)) % 5) (Int.emod_nonneg _ (by decide)) (Int.emod_lt_of_pos _ (by decide)) ⟨by omega, by omega⟩ ⟨by omega, by omega⟩ ⟨by omega, by omega⟩ ⟨by omega, by omega⟩ ⟨by omega, by omega⟩
        generalize hH9 : upd H8 pc _ = H9
        obtain ⟨e9, f9⟩ := alloc hpc hH9
        have fd9 := e9 _ _ fd
        refine ⟨_, ofL fd9, _, atI_0, _, ofL fd9, _, hat2, x, rfl, by decide, mulW64 (by omega) (by omega), u, rfl, by decide, _, ofL f9, _, hz, by decide, fun pt hpt => ?_⟩
        generalize hH10 : upd H9 pt _ = H10
        obtain ⟨e10, f10⟩ := alloc hpt hH10
        have e810 : Ext H8 H10 := e9.trans e10
        have hp10 := e810 _ _ hf
        have hlr : rs2.length = j := by
          have := congrArg List.length hm
          rw [List.length_map, List.length_take] at this
          omega
        have hz16 : sizeLine = 16777216 := rfl
        refine ⟨_, hp10, by rw [List.length_map, hR.len]; omega, upd_ext (eH.trans e810) hpm, ?_, ts ++ [pt], ?_, rs2 ++ [(zs[j], z)], ((hR.ext e810).snoc f10).upd hp10, ?_, ?_⟩
        · have hne : pd ≠ pm := fun e => by
            rw [e, hf] at fd
            cases ts <;> cases fd
          rw [upd_ne hne]
          exact e810 _ _ fd
        · rw [upd_same, List.map_append]
          rfl
        · rw [List.map_append, hm, take_snoc (List.getElem?_eq_getElem hjz)]
          rfl
        · intro r hr2
          rcases List.mem_append.mp hr2 with h | h
          · exact hnum r h
          · rw [List.mem_singleton.mp h]
            exact ⟨z0, z1⟩
      · rintro σ H8 ⟨⟨v6, rfl⟩, eH, fd, ts, rs2, hf, hR, hm, hnum⟩
        refine hN _ _ ?_
        clear hN N
        rw [List.take_of_length_le (by omega)] at hm
        simp only [tSeq, tIfS, tOp, tVar, tC, tCB, tCons, tNil, rI0, rI, tTest, tRet, tRetN, tNext, tAsg, gName, gNil, gCons, gTup, gUnl, tLst, tTup, tCall, tMeth, tMake, tUn, rU, tAndV, tOrV, tNotV, tAnd, tOr, tNot, tIf, tB, tFld, tDrop, tPar, tNever, tBM, rAppend, tSl, tPart, tNoPart, tM1, tyLst, List.getElem?_cons_zero, List.getElem?_cons_succ, Option.some.injEq, exists_eq_left', exists_eq_left, V.int.injEq, V.bl.injEq, V.str.injEq, V.ref.injEq, List.set_cons_zero, List.set_cons_succ, exists_and_left, exists_and_right, and_assoc, List.cons.injEq, and_true, true_and, List.cons_append, List.nil_append, List.append_nil, List.length_cons, List.length_nil, exists_eq', exists_eq, exists_const, exists_eq_right, exists_eq_right', cxK, Cx.nox, Cx.wish]
        refine ⟨by decide, fun pt hpt => ?_⟩
        generalize hH9 : upd H8 pt _ = H9
        obtain ⟨e9, f9⟩ := alloc hpt hH9
        exact q rs rs2 pr pm pt H9 ok1 ⟨hm ▸ hg, hnum⟩ hl1 (by rw [← hl, ← hm, List.length_map]) (e3.trans (e4.trans (eH.trans e9))) (R1.ext (e4.trans (eH.trans e9))) ⟨ts, e9 _ _ hf, hR.ext e9⟩ f9

/-! ### _need_name, _need_number, _numbers_by_name, World -/
def spNeedName : Sp := fun vs H Q _ => ∃ (nm : Str) (k : Nat), vs = [.str nm] ∧ Let nm k ∧ 1 ≤ k ∧ k ≤ 6 ∧ Q .non H
theorem ok_need_name (T : Tx a K mg w) : FnOk P w K mg base CX0 1 a.f_need_name a.d_need_name ps_need_name spNeedName := by
  refine T.F_need_name.ok sc_need_name (fun vs H Q E h => ?_) (fun cdv A outer s H vs Q E hr h => ?_)
  · obtain ⟨nm, k, rfl, _⟩ := h
    rfl
  · obtain ⟨nm, k, rfl, hl, k1, k6, q⟩ := h
    obtain ⟨tokX_MOST_LETTERS, mgX_MOST_LETTERS⟩ := T.mg_MOST_LETTERS
    obtain ⟨tokX_LETTERS, mgX_LETTERS⟩ := T.mg_LETTERS
    refine ⟨_, (pss_cons (ps_if (PW.pt (pw_or (pt_cmpR op_lt (pe_callB call_len_str (by rfl) T.no_len (by decide +kernel) (pa_cons (pv 0) pa_nil)) pe_int (nomark _)) (pw_or1 (pt_cmpR op_gt (pe_callB call_len_str (by rfl) T.no_len (by decide +kernel) (pa_cons (pv 0) pa_nil)) (pe_glob (v := V.int 6) rfl mgX_MOST_LETTERS ⟨_, rfl⟩) (nomark _))))) (pss_one ps_never) pss_nil)
      (pss_one (ps_for PassesOwn.never rfl (pi_str (pv 0)) (pg_name (i := 1) sc_need_name.nd rfl (by first | exact Or.inl rfl | exact Or.inr rfl))
        (pss_one (ps_if (pt_cmpR op_notInS (pv 1) (pe_glob (v := V.str "abcdefghijklmnopqrstuvwxyz") rfl mgX_LETTERS ⟨_, rfl⟩) (by rfl)) (pss_one ps_never) pss_nil))))), ?_⟩
    show tSeq _ _ _ [some (V.str nm), none] H
    simp only [tSeq, tIfS, tOp, tVar, tC, tCB, tCons, tNil, rI0, rI, tTest, tRet, tRetN, tNext, tAsg, gName, gNil, gCons, gTup, gUnl, tLst, tTup, tCall, tMeth, tMake, tUn, rU, tAndV, tOrV, tNotV, tAnd, tOr, tNot, tIf, tB, tFld, tDrop, tPar, tNever, tBM, rAppend, tSl, tPart, tNoPart, tM1, tyLst, List.getElem?_cons_zero, List.getElem?_cons_succ, Option.some.injEq, exists_eq_left', exists_eq_left, V.int.injEq, V.bl.injEq, V.str.injEq, V.ref.injEq, List.set_cons_zero, List.set_cons_succ, exists_and_left, exists_and_right, and_assoc, List.cons.injEq, and_true, true_and, List.cons_append, List.nil_append, List.append_nil, List.length_cons, List.length_nil, exists_eq', exists_eq, exists_const, exists_eq_right, exists_eq_right', cxK, Cx.nox, Cx.wish]
    have hz16 : sizeLine = 16777216 := rfl
    rw [hl.len]
    refine ⟨by omega, ite2 (fun h => absurd (of_decide_eq_true h) (by omega)) fun _ => ⟨by omega, ite2 (fun h => absurd (of_decide_eq_true h) (by omega)) fun _ => ?_⟩⟩
    refine tFor_i (J := Its nm) (fun R r => ⟨_, rfl, _, rfl, r⟩) walk_str (fun i σ H' => H' = H ∧ ∃ v, σ = [some (V.str nm), v]) ⟨rfl, _, rfl⟩ (fun _ _ _ _ _ => trivial) ?_ ?_
    · rintro i x σ H3 H4 hi ⟨rfl, v, rfl⟩ ⟨rfl, cc, hcc, rfl⟩
      simp only [rNotInS, tSeq, tIfS, tOp, tVar, tC, tCB, tCons, tNil, rI0, rI, tTest, tRet, tRetN, tNext, tAsg, gName, gNil, gCons, gTup, gUnl, tLst, tTup, tCall, tMeth, tMake, tUn, rU, tAndV, tOrV, tNotV, tAnd, tOr, tNot, tIf, tB, tFld, tDrop, tPar, tNever, tBM, rAppend, tSl, tPart, tNoPart, tM1, tyLst, List.getElem?_cons_zero, List.getElem?_cons_succ, Option.some.injEq, exists_eq_left', exists_eq_left, V.int.injEq, V.bl.injEq, V.str.injEq, V.ref.injEq, List.set_cons_zero, List.set_cons_succ, exists_and_left, exists_and_right, and_assoc, List.cons.injEq, and_true, true_and, List.cons_append, List.nil_append, List.append_nil, List.length_cons, List.length_nil, exists_eq', exists_eq, exists_const, exists_eq_right, exists_eq_right', cxK, Cx.nox, Cx.wish]
      have hlow := hl.low cc (List.mem_of_getElem? (by simpa using hcc))
      unfold Low at hlow
      have hin : cc ∈ (Str.ofString "abcdefghijklmnopqrstuvwxyz").cps.toList := by
        have e : (Str.ofString "abcdefghijklmnopqrstuvwxyz").cps.toList = List.range' 97 26 := abc_list
        rw [e, List.mem_range']
        exact ⟨cc - 97, by omega, by omega⟩
      refine ⟨cc, rfl, ?_⟩
      rw [decide_eq_true hin]
      exact iteF trivial
    · rintro σ H' ⟨rfl, v, rfl⟩
      exact q
def spNeedNumber : Sp := fun vs H Q _ => ∃ (x : Str) (n b : Int), vs = [.str x, .int n] ∧ ((x = "rate" ∧ b = 1000000000) ∨ (x = "shares" ∧ b = 1000000)) ∧ 1 ≤ n ∧ n ≤ b ∧ Q .non H
theorem ok_need_number (T : Tx a K mg w) : FnOk P w K mg base CX0 1 a.f_need_number a.d_need_number ps_need_number spNeedNumber := by
  refine T.F_need_number.ok sc_need_number (fun vs H Q E h => ?_) (fun cdv A outer s H vs Q E hr h => ?_)
  · obtain ⟨x, n, b, rfl, _⟩ := h
    rfl
  · obtain ⟨x, n, b, rfl, hx, n1, nb, q⟩ := h
    refine ⟨_, (pss_cons (ps_asg (pe_ix ix_kdict (pe_glob (v := V.ref a.B_BOUNDS) rfl T.mg_BOUNDS rfl) (pv 0) (fun _ _ => rfl)) (pg_tup rfl (pgs_cons (pg_name (i := 2) sc_need_number.nd rfl (by first | exact Or.inl rfl | exact Or.inr rfl)) (pgs_cons (pg_name (i := 3) sc_need_number.nd rfl (by first | exact Or.inl rfl | exact Or.inr rfl)) pgs_nil)) (by rfl)))
      (pss_cons (ps_if (PW.pt (pw_or (pt_cmpR op_lt (pv 1) (pv 2) (nomark _)) (pw_or1 (pt_cmpR op_gt (pv 1) (pv 3) (nomark _))))) (pss_one ps_never) pss_nil)
      (pss_one (ps_if (PW.pt (pw_and (pt_cmpR op_eq (pv 0) pe_str (nomark _)) (pw_and1 (pt_cmpR op_eq (pv 1) pe_int (nomark _))))) (pss_one ps_never) pss_nil)))), ?_⟩
    show tSeq _ _ _ [some (V.str x), some (V.int n), none, none] H
    simp only [rIxD, rEq, tSeq, tIfS, tOp, tVar, tC, tCB, tCons, tNil, rI0, rI, tTest, tRet, tRetN, tNext, tAsg, gName, gNil, gCons, gTup, gUnl, tLst, tTup, tCall, tMeth, tMake, tUn, rU, tAndV, tOrV, tNotV, tAnd, tOr, tNot, tIf, tB, tFld, tDrop, tPar, tNever, tBM, rAppend, tSl, tPart, tNoPart, tM1, tyLst, List.getElem?_cons_zero, List.getElem?_cons_succ, Option.some.injEq, exists_eq_left', exists_eq_left, V.int.injEq, V.bl.injEq, V.str.injEq, V.ref.injEq, List.set_cons_zero, List.set_cons_succ, exists_and_left, exists_and_right, and_assoc, List.cons.injEq, and_true, true_and, List.cons_append, List.nil_append, List.append_nil, List.length_cons, List.length_nil, exists_eq', exists_eq, exists_const, exists_eq_right, exists_eq_right', cxK, Cx.nox, Cx.wish]
    rcases hx with ⟨rfl, rfl⟩ | ⟨rfl, rfl⟩
    · refine ⟨_, T.ix_BOUNDS_rate, _, rfl, _, T.sq_BOUNDS_rate.sq _, rfl, _, _, rfl, _, _, rfl, rfl, _, rfl, ite2 (fun h => absurd (of_decide_eq_true h) (by omega)) (fun _ => ⟨_, rfl, ite2 (fun h => absurd (of_decide_eq_true h) (by omega)) fun _ => ⟨rfl, ?_⟩⟩)⟩
      exact ite2 (fun h => absurd (of_decide_eq_true h) (by decide +kernel)) (fun _ => iteF q)
    · refine ⟨_, T.ix_BOUNDS_shares, _, rfl, _, T.sq_BOUNDS_shares.sq _, rfl, _, _, rfl, _, _, rfl, rfl, _, rfl, ite2 (fun h => absurd (of_decide_eq_true h) (by omega)) (fun _ => ⟨_, rfl, ite2 (fun h => absurd (of_decide_eq_true h) (by omega)) fun _ => ⟨rfl, ?_⟩⟩)⟩
      exact ite2 (fun h => absurd (of_decide_eq_true h) (by decide +kernel)) (fun _ => iteF q)
def kvsOf (rs : List (Str × Int)) : List (Key × V) := rs.map fun r => (Sum.inr r.1, V.int r.2)
theorem kvs_free {rs : List (Str × Int)} {n : Str} (h : n ∉ rs.map (·.1)) : ∀ kv ∈ kvsOf rs, ¬ kv.1 = Sum.inr n := by
  intro kv hkv e
  obtain ⟨r, hr, rfl⟩ := List.mem_map.mp hkv
  exact h (List.mem_map.mpr ⟨r, hr, Sum.inr.inj e⟩)
theorem valV_free {rs : List (Str × Int)} {n : Str} (h : n ∉ rs.map (·.1)) : valV (kvsOf rs) (Sum.inr n) = none := by
  unfold valV
  rw [List.find?_eq_none.mpr fun kv hkv => by simpa using kvs_free h kv hkv]
  rfl
theorem putK_free {rs : List (Str × Int)} {n : Str} {v : Int} (h : n ∉ rs.map (·.1)) : putK (kvsOf rs) (Sum.inr n) (V.int v) = kvsOf (rs ++ [(n, v)]) := by
  unfold putK
  rw [if_neg]
  · unfold kvsOf
    rw [List.map_append]
    rfl
  · intro z
    obtain ⟨kv, hkv, e⟩ := List.any_eq_true.mp z
    exact kvs_free h kv hkv (of_decide_eq_true e)
def spNumbers : Sp := fun vs H Q _ => ∃ (p : Addr) (x : Str) (m b : Int) (rs : List (Str × Int)), vs = [.ref p, .int m, .str x] ∧ RowsAt H p rs ∧ OkRows b rs ∧ ((x = "rate" ∧ b = 1000000000) ∨ (x = "shares" ∧ b = 1000000)) ∧ 1 ≤ rs.length ∧ (rs.length : Int) ≤ m ∧ m ≤ 8 ∧ ∀ d, H d = none → Q (.ref d) (upd H d (.dK (kvsOf rs)))
theorem ok_numbers_by_name (T : Tx a K mg w) : FnOk P w K mg base CX0 2 a.f_numbers_by_name a.d_numbers_by_name ps_numbers_by_name spNumbers := by
  refine T.F_numbers_by_name.ok sc_numbers_by_name (fun vs H Q E h => ?_) (fun cdv A outer s H vs Q E hr h => ?_)
  · obtain ⟨p, x, m, b, rs, rfl, _⟩ := h
    rfl
  · obtain ⟨p, x, m, b, rs, rfl, ⟨ts, ht, hR⟩, ok, hx, l1, lm, m8, q⟩ := h
    have hu := hu_of hr
    have G_need_name := ok_need_name (P := P) (w := w) (base := base) T
    have B_need_name := bnd_need_name T
    have hr_need_name : Room 1 _ := hr.mono (by decide)
    have G_need_number := ok_need_number (P := P) (w := w) (base := base) T
    have B_need_number := bnd_need_number T
    have hr_need_number : Room 1 _ := hr.mono (by decide)
    refine ⟨_, (pss_cons (ps_if (PW.pt (pw_or (pt_cmpR op_lt (pe_callB call_len_seq (by rfl) T.no_len (by decide +kernel) (pa_cons (pv 0) pa_nil)) pe_int (nomark _)) (pw_or1 (pt_cmpR op_gt (pe_callB call_len_seq (by rfl) T.no_len (by decide +kernel) (pa_cons (pv 0) pa_nil)) (pv 1) (nomark _))))) (pss_one ps_never) pss_nil)
      (pss_cons (ps_set (i := 3) sc_numbers_by_name.nd rfl (by first | exact Or.inl rfl | exact Or.inr rfl) pe_dnewK)
      (pss_cons (ps_for PassesOwn.never rfl (pi_list (pv 0)) (pg_tup rfl (pgs_cons (pg_name (i := 4) sc_numbers_by_name.nd rfl (by first | exact Or.inl rfl | exact Or.inr rfl)) (pgs_cons (pg_name (i := 5) sc_numbers_by_name.nd rfl (by first | exact Or.inl rfl | exact Or.inr rfl)) pgs_nil)) (by rfl))
        (pss_cons (ps_expr (pe_call G_need_name hr_need_name (by rfl) T.mg_need_name T.F_need_name.kp B_need_name .nil pass0 (pa_cons (pv 4) pa_nil)))
        (pss_cons (ps_if (pt_cmp (pc_din hu (pv 4) (pv 3))) (pss_one ps_never) pss_nil)
        (pss_cons (ps_expr (pe_call G_need_number hr_need_number (by rfl) T.mg_need_number T.F_need_number.kp B_need_number .nil pass0 (pa_cons (pv 2) (pa_cons (pv 5) pa_nil))))
        (pss_one (ps_dput hu (pv 3) (pv 4) (pv 5) rfl))))))
      (pss_one (ps_ret (pv 3)))))), ?_⟩
    show tSeq _ _ _ [some (V.ref p), some (V.int m), some (V.str x), none, none, none] H
    simp only [tSeq, tIfS, tOp, tVar, tC, tCB, tCons, tNil, rI0, rI, tTest, tRet, tRetN, tNext, tAsg, gName, gNil, gCons, gTup, gUnl, tLst, tTup, tCall, tMeth, tMake, tUn, rU, tAndV, tOrV, tNotV, tAnd, tOr, tNot, tIf, tB, tFld, tDrop, tPar, tNever, tBM, rAppend, tSl, tPart, tNoPart, tM1, tyLst, List.getElem?_cons_zero, List.getElem?_cons_succ, Option.some.injEq, exists_eq_left', exists_eq_left, V.int.injEq, V.bl.injEq, V.str.injEq, V.ref.injEq, List.set_cons_zero, List.set_cons_succ, exists_and_left, exists_and_right, and_assoc, List.cons.injEq, and_true, true_and, List.cons_append, List.nil_append, List.append_nil, List.length_cons, List.length_nil, exists_eq', exists_eq, exists_const, exists_eq_right, exists_eq_right', cxK, Cx.nox, Cx.wish]
    have hlt : (ts.map V.ref).length = rs.length := by rw [List.length_map, hR.len]
    refine ⟨_, .inl (ofL ht), ite2 (fun h => absurd (of_decide_eq_true h) (by omega)) (fun _ => ⟨_, .inl (ofL ht), ite2 (fun h => absurd (of_decide_eq_true h) (by omega)) fun _ => ?_⟩)⟩
    intro d hd
    have ed : ∀ u, Ext H (upd H d u) := fun u => Ext.upd hd
    refine for_listI (a := p) (xs := ts.map V.ref) rfl (ofL (ed _ _ _ ht)) (fun i σ H' => ∃ v4 v5, σ = [some (V.ref p), some (V.int m), some (V.str x), some (V.ref d), v4, v5] ∧ H' = upd H d (.dK (kvsOf (rs.take i)))) ⟨_, _, rfl, rfl⟩ ?_ ?_ ?_
    · rintro i σ H' _ ⟨_, _, _, rfl⟩
      exact ofL (ed _ _ _ ht)
    · rintro i y σ H' hy ⟨v4, v5, rfl, rfl⟩
      obtain ⟨t, hti, rfl⟩ : ∃ t, ts[i]? = some t ∧ y = V.ref t := by
        rw [List.getElem?_map] at hy
        cases e : ts[i]? with
        | none => rw [e] at hy; cases hy
        | some t => rw [e] at hy; exact ⟨t, rfl, (Option.some.inj hy).symm⟩
      obtain ⟨r, hri, hrt⟩ := hR.get hti
      have hrm : r ∈ rs := List.mem_of_getElem? hri
      obtain ⟨nk, hnl, hn1, hn6⟩ := ok.good.each r.1 (List.mem_map.mpr ⟨r, hrm, rfl⟩)
      have hfree : r.1 ∉ (rs.take i).map (·.1) := by
        intro z
        have nd := ok.good.nd
        rw [← List.take_append_drop i rs, List.map_append] at nd
        have hd2 : r ∈ rs.drop i := by
          rw [List.mem_iff_getElem?]
          exact ⟨0, by rw [List.getElem?_drop]; simpa using hri⟩
        exact (List.nodup_append.mp nd).2.2 _ z _ (List.mem_map.mpr ⟨r, hd2, rfl⟩) rfl
      simp only [tDIn, sDPut, tSeq, tIfS, tOp, tVar, tC, tCB, tCons, tNil, rI0, rI, tTest, tRet, tRetN, tNext, tAsg, gName, gNil, gCons, gTup, gUnl, tLst, tTup, tCall, tMeth, tMake, tUn, rU, tAndV, tOrV, tNotV, tAnd, tOr, tNot, tIf, tB, tFld, tDrop, tPar, tNever, tBM, rAppend, tSl, tPart, tNoPart, tM1, tyLst, List.getElem?_cons_zero, List.getElem?_cons_succ, Option.some.injEq, exists_eq_left', exists_eq_left, V.int.injEq, V.bl.injEq, V.str.injEq, V.ref.injEq, List.set_cons_zero, List.set_cons_succ, exists_and_left, exists_and_right, and_assoc, List.cons.injEq, and_true, true_and, List.cons_append, List.nil_append, List.append_nil, List.length_cons, List.length_nil, exists_eq', exists_eq, exists_const, exists_eq_right, exists_eq_right', cxK, Cx.nox, Cx.wish]
      refine ⟨_, ofT (ed _ _ _ hrt), rfl, ?_⟩
      simp only [tSeq, tIfS, tOp, tVar, tC, tCB, tCons, tNil, rI0, rI, tTest, tRet, tRetN, tNext, tAsg, gName, gNil, gCons, gTup, gUnl, tLst, tTup, tCall, tMeth, tMake, tUn, rU, tAndV, tOrV, tNotV, tAnd, tOr, tNot, tIf, tB, tFld, tDrop, tPar, tNever, tBM, rAppend, tSl, tPart, tNoPart, tM1, tyLst, List.getElem?_cons_zero, List.getElem?_cons_succ, Option.some.injEq, exists_eq_left', exists_eq_left, V.int.injEq, V.bl.injEq, V.str.injEq, V.ref.injEq, List.set_cons_zero, List.set_cons_succ, exists_and_left, exists_and_right, and_assoc, List.cons.injEq, and_true, true_and, List.cons_append, List.nil_append, List.append_nil, List.length_cons, List.length_nil, exists_eq', exists_eq, exists_const, exists_eq_right, exists_eq_right', cxK, Cx.nox, Cx.wish]
      refine ⟨r.1, nk, rfl, hnl, hn1, hn6, ?_⟩
      refine ⟨_, DGet.k (k := Sum.inr r.1) upd_same, ?_⟩
      rw [valV_free hfree]
      refine iteF ⟨x, r.2, b, rfl, hx, (ok.num r hrm).1, (ok.num r hrm).2, ?_⟩
      have hlen : (kvsOf (rs.take i)).length < sizeLine := by
        have hz16 : sizeLine = 16777216 := rfl
        unfold kvsOf
        rw [List.length_map, List.length_take]
        omega
      have z := DPut.k (H := upd H d (.dK (kvsOf (rs.take i)))) (a := d) (k := Sum.inr r.1) (v := V.int r.2) upd_same hlen
      have e : rs.take i ++ [(r.1, r.2)] = rs.take (i + 1) := (take_snoc hri).symm
      rw [upd_upd, putK_free hfree, e] at z
      exact z
    · rintro σ H' ⟨v4, v5, rfl, rfl⟩
      simp only [tSeq, tIfS, tOp, tVar, tC, tCB, tCons, tNil, rI0, rI, tTest, tRet, tRetN, tNext, tAsg, gName, gNil, gCons, gTup, gUnl, tLst, tTup, tCall, tMeth, tMake, tUn, rU, tAndV, tOrV, tNotV, tAnd, tOr, tNot, tIf, tB, tFld, tDrop, tPar, tNever, tBM, rAppend, tSl, tPart, tNoPart, tM1, tyLst, List.getElem?_cons_zero, List.getElem?_cons_succ, Option.some.injEq, exists_eq_left', exists_eq_left, V.int.injEq, V.bl.injEq, V.str.injEq, V.ref.injEq, List.set_cons_zero, List.set_cons_succ, exists_and_left, exists_and_right, and_assoc, List.cons.injEq, and_true, true_and, List.cons_append, List.nil_append, List.append_nil, List.length_cons, List.length_nil, exists_eq', exists_eq, exists_const, exists_eq_right, exists_eq_right', cxK, Cx.nox, Cx.wish]
      rw [List.take_of_length_le (by omega)]
      exact q d hd
/-! World -/
def fsW (d d2 : Addr) : List (Str × V) := putF "_shares" (.ref d2) (putF "_rates" (.ref d) [])
theorem fsW_r (d d2 : Addr) : (fsW d d2).lookup ("_rates" : Str) = some (.ref d) := by
  unfold fsW
  rw [lookup_putF, if_neg (by decide +kernel), lookup_putF, if_pos rfl]
theorem fsW_s (d d2 : Addr) : (fsW d d2).lookup ("_shares" : Str) = some (.ref d2) := by
  unfold fsW
  rw [lookup_putF, if_pos rfl]
def WorldAt (C : Addr) (H : Hp) (p : Addr) (rs rs2 : List (Str × Int)) : Prop := ∃ dx d d2, H p = some (.ins C dx (fsW d d2)) ∧ H d = some (.dK (kvsOf rs)) ∧ H d2 = some (.dK (kvsOf rs2))
theorem WorldAt.ext {C : Addr} {H H' : Hp} {p : Addr} {rs rs2 : List (Str × Int)} (h : WorldAt C H p rs rs2) (e : Ext H H') : WorldAt C H' p rs rs2 := by
  obtain ⟨dx, d, d2, h1, h2, h3⟩ := h
  exact ⟨dx, d, d2, e _ _ h1, e _ _ h2, e _ _ h3⟩
def spWorldInit (C : Addr) : Sp := fun vs H Q _ => ∃ (p dx c h : Addr) (rs rs2 : List (Str × Int)), vs = [.ref p, .ref c, .ref h] ∧ H p = some (.ins C dx []) ∧ RowsAt H c rs ∧ RowsAt H h rs2 ∧ OkRows 1000000000 rs ∧ OkRows 1000000 rs2 ∧ 1 ≤ rs.length ∧ rs.length ≤ 5 ∧ 1 ≤ rs2.length ∧ rs2.length ≤ 8 ∧
  ∀ H', (∀ b o, H b = some o → b ≠ p → H' b = some o) → WorldAt C H' p rs rs2 → Q .non H'
theorem ok_World_init (T : Tx a K mg w) : FnOk P w K mg base CX0 3 a.f_World_init a.d_World_init ps_World_init (spWorldInit a.C_World) := by
  refine T.F_World_init.ok sc_World_init (fun vs H Q E h => ?_) (fun cdv A outer s H vs Q E hr h => ?_)
  · obtain ⟨p, dx, c, h, rs, rs2, rfl, _⟩ := h
    rfl
  · obtain ⟨p, dx, c, h, rs, rs2, rfl, hp, hc, hh, ok1, ok2, a1, a2, a3, a4, q⟩ := h
    have G_numbers_by_name := ok_numbers_by_name (P := P) (w := w) (base := base) T
    have B_numbers_by_name := bnd_numbers_by_name T
    have hr_numbers_by_name : Room 2 _ := hr.mono (by decide)
    obtain ⟨tokX_MOST_COINS, mgX_MOST_COINS⟩ := T.mg_MOST_COINS
    obtain ⟨tokX_MOST_HOUSES, mgX_MOST_HOUSES⟩ := T.mg_MOST_HOUSES
    refine ⟨_, (pss_cons (ps_fld (pv 0) (pe_call G_numbers_by_name hr_numbers_by_name (by rfl) T.mg_numbers_by_name T.F_numbers_by_name.kp B_numbers_by_name .nil pass0 (pa_cons (pv 1) (pa_cons (pe_glob (v := V.int 5) rfl mgX_MOST_COINS ⟨_, rfl⟩) (pa_cons pe_str pa_nil)))) rfl)
      (pss_one (ps_fld (pv 0) (pe_call G_numbers_by_name hr_numbers_by_name (by rfl) T.mg_numbers_by_name T.F_numbers_by_name.kp B_numbers_by_name .nil pass0 (pa_cons (pv 2) (pa_cons (pe_glob (v := V.int 8) rfl mgX_MOST_HOUSES ⟨_, rfl⟩) (pa_cons pe_str pa_nil)))) rfl))), ?_⟩
    show tSeq _ _ _ [some (V.ref p), some (V.ref c), some (V.ref h)] H
    simp only [sFld, tSeq, tIfS, tOp, tVar, tC, tCB, tCons, tNil, rI0, rI, tTest, tRet, tRetN, tNext, tAsg, gName, gNil, gCons, gTup, gUnl, tLst, tTup, tCall, tMeth, tMake, tUn, rU, tAndV, tOrV, tNotV, tAnd, tOr, tNot, tIf, tB, tFld, tDrop, tPar, tNever, tBM, rAppend, tSl, tPart, tNoPart, tM1, tyLst, List.getElem?_cons_zero, List.getElem?_cons_succ, Option.some.injEq, exists_eq_left', exists_eq_left, V.int.injEq, V.bl.injEq, V.str.injEq, V.ref.injEq, List.set_cons_zero, List.set_cons_succ, exists_and_left, exists_and_right, and_assoc, List.cons.injEq, and_true, true_and, List.cons_append, List.nil_append, List.append_nil, List.length_cons, List.length_nil, exists_eq', exists_eq, exists_const, exists_eq_right, exists_eq_right', cxK, Cx.nox, Cx.wish]
    refine ⟨c, _, 5, _, rs, rfl, hc, ok1, .inl ⟨rfl, rfl⟩, a1, by omega, by decide, fun d hd => ?_⟩
    generalize hH1 : upd H d _ = H1
    obtain ⟨e1, f1⟩ := alloc hd hH1
    refine ⟨_, _, _, e1 _ _ hp, T.cl_World, T.na_World__rates, (by show 0 < 1000; decide), ?_⟩
    have hpl : ∀ {u : HO} {p2 : Addr} {xs : List V}, H1 p2 = some (.lst xs) → upd H1 p u p2 = some (.lst xs) := fun {u p2 xs} z => by
      rw [upd_ne (fun e => by rw [e, e1 _ _ hp] at z; cases z)]
      exact z
    obtain ⟨ts2, hh1, hh2⟩ := hh.ext e1
    refine ⟨h, _, 8, _, rs2, rfl, ⟨ts2, hpl hh1, ?_⟩, ok2, .inr ⟨rfl, rfl⟩, a3, by omega, by decide, fun d2 hd2 => ?_⟩
    · exact pmono (fun t r z => by
        rw [upd_ne (fun e => by rw [e, e1 _ _ hp] at z; cases z)]
        exact z) hh2
    have hdp : d ≠ p := fun e => by rw [e, hp] at hd; cases hd
    have hd2p : d2 ≠ p := fun e => by rw [e, upd_same] at hd2; cases hd2
    have hd2d : d2 ≠ d := fun e => by rw [e, upd_ne hdp, f1] at hd2; cases hd2
    refine ⟨_, _, _, by rw [upd_ne (Ne.symm hd2p), upd_same], T.cl_World, T.na_World__shares, (by show 1 < 1000; decide), ?_⟩
    refine q _ (fun b o hb hne => ?_) ⟨dx, d, d2, upd_same, ?_, ?_⟩
    · rw [upd_ne hne, upd_ne, upd_ne hne]
      · exact e1 _ _ hb
      · intro e
        rw [e] at hb
        rw [upd_ne hd2p] at hd2
        rw [e1 _ _ hb] at hd2
        cases hd2
    · rw [upd_ne hdp, upd_ne (Ne.symm hd2d), upd_ne hdp]
      exact f1
    · rw [upd_ne hd2p, upd_same]
def spRows (C : Addr) (second : Bool) : Sp := fun vs H Q _ => ∃ (p : Addr) (rs rs2 : List (Str × Int)), vs = [.ref p] ∧ WorldAt C H p rs rs2 ∧ ∀ (l : Addr) H', Ext H H' → H l = none → RowsAt H' l (if second then rs2 else rs) → Q (.ref l) H'
theorem rows_of {H : Hp} : ∀ {ts : List Addr} {rs : List (Str × Int)}, Paired (fun (t : Addr) (q : Key × V) => H t = some (.tup [kV q.1, q.2])) ts (kvsOf rs) → RowsIn H ts rs
  | [], [], _ => .nil
  | t :: ts, r :: rs, h => by
    cases h with
    | cons a b => exact .cons a (rows_of b)
theorem ok_World_coin_rows (T : Tx a K mg w) : FnOk P w K mg base CX0 1 a.f_World_coin_rows a.d_World_coin_rows ps_World_coin_rows (spRows a.C_World false) := by
  refine T.F_World_coin_rows.ok sc_World_coin_rows (fun vs H Q E h => ?_) (fun cdv A outer s H vs Q E hr h => ?_)
  · obtain ⟨p, rs, rs2, rfl, _⟩ := h
    rfl
  · obtain ⟨p, rs, rs2, rfl, ⟨dx, d, d2, hp, h1, h2⟩, q⟩ := h
    refine ⟨_, (pss_one (ps_ret (LiI.pe_listItems rfl (pe_fld (pv 0) rfl) (by rfl) T.no_list (by decide +kernel)))), ?_⟩
    show tRet _ _ [some (V.ref p)] H
    simp only [LiI.tListItems, tSeq, tIfS, tOp, tVar, tC, tCB, tCons, tNil, rI0, rI, tTest, tRet, tRetN, tNext, tAsg, gName, gNil, gCons, gTup, gUnl, tLst, tTup, tCall, tMeth, tMake, tUn, rU, tAndV, tOrV, tNotV, tAnd, tOr, tNot, tIf, tB, tFld, tDrop, tPar, tNever, tBM, rAppend, tSl, tPart, tNoPart, tM1, tyLst, List.getElem?_cons_zero, List.getElem?_cons_succ, Option.some.injEq, exists_eq_left', exists_eq_left, V.int.injEq, V.bl.injEq, V.str.injEq, V.ref.injEq, List.set_cons_zero, List.set_cons_succ, exists_and_left, exists_and_right, and_assoc, List.cons.injEq, and_true, true_and, List.cons_append, List.nil_append, List.append_nil, List.length_cons, List.length_nil, exists_eq', exists_eq, exists_const, exists_eq_right, exists_eq_right', cxK, Cx.nox, Cx.wish]
    refine ⟨_, _, _, hp, T.cl_World, T.na_World__rates, _, fsW_r _ _, d, _, rfl, h1, fun H' l ts e hl _ _ hl' hts => q l H' e hl ⟨ts, hl', rows_of hts⟩⟩
theorem ok_World_house_rows (T : Tx a K mg w) : FnOk P w K mg base CX0 1 a.f_World_house_rows a.d_World_house_rows ps_World_house_rows (spRows a.C_World true) := by
  refine T.F_World_house_rows.ok sc_World_house_rows (fun vs H Q E h => ?_) (fun cdv A outer s H vs Q E hr h => ?_)
  · obtain ⟨p, rs, rs2, rfl, _⟩ := h
    rfl
  · obtain ⟨p, rs, rs2, rfl, ⟨dx, d, d2, hp, h1, h2⟩, q⟩ := h
    refine ⟨_, (pss_one (ps_ret (LiI.pe_listItems rfl (pe_fld (pv 0) rfl) (by rfl) T.no_list (by decide +kernel)))), ?_⟩
    show tRet _ _ [some (V.ref p)] H
    simp only [LiI.tListItems, tSeq, tIfS, tOp, tVar, tC, tCB, tCons, tNil, rI0, rI, tTest, tRet, tRetN, tNext, tAsg, gName, gNil, gCons, gTup, gUnl, tLst, tTup, tCall, tMeth, tMake, tUn, rU, tAndV, tOrV, tNotV, tAnd, tOr, tNot, tIf, tB, tFld, tDrop, tPar, tNever, tBM, rAppend, tSl, tPart, tNoPart, tM1, tyLst, List.getElem?_cons_zero, List.getElem?_cons_succ, Option.some.injEq, exists_eq_left', exists_eq_left, V.int.injEq, V.bl.injEq, V.str.injEq, V.ref.injEq, List.set_cons_zero, List.set_cons_succ, exists_and_left, exists_and_right, and_assoc, List.cons.injEq, and_true, true_and, List.cons_append, List.nil_append, List.append_nil, List.length_cons, List.length_nil, exists_eq', exists_eq, exists_const, exists_eq_right, exists_eq_right', cxK, Cx.nox, Cx.wish]
    refine ⟨_, _, _, hp, T.cl_World, T.na_World__shares, _, fsW_s _ _, d2, _, rfl, h2, fun H' l ts e hl _ _ hl' hts => q l H' e hl ⟨ts, hl', rows_of hts⟩⟩

/-! ### _law_same, on data -/
def spSameD (K : PySem.W.Frag) : Sp := fun vs H Q _ => ∃ (x y : V) (d : PyData), vs = [x, y] ∧ Dp K H x d ∧ Dp K H y d ∧ Neat d ∧ Q (.bl true) H
theorem ok_l_same (T : Tx a K mg w) : FnG P w K mg base CX0 2 a.f_l_same a.d_l_same ps_l_same (spSameD K) := by
  refine okG T.F_l_same sc_l_same (fun vs H Q E h => ?_) (fun cdv A outer s H vs Q E hgd hr h => ?_)
  · obtain ⟨x, y, d, rfl, _⟩ := h
    rfl
  · obtain ⟨x, y, d, rfl, hx, hy, nt, q⟩ := h
    refine ⟨_, (pss_cons (ps_if (pt_val (pe_callB call_isi (by rfl) T.no_isinstance (by decide +kernel) (pa_cons (pv 1) (pa_cons (pe_bltn (v := V.ty "dict") (by rfl) T.no_dict (by decide +kernel) rfl) pa_nil)))) (pss_one ps_never) pss_nil)
      (pss_one (ps_ret (pe_and (pe_cmpR (op_eqD hr.units) (pv 0) (pv 1) (nomark _)) (pe_one (pe_cmpR op_eq (pe_callB (call_reprD hgd (hr.mono (by decide))) (by rfl) T.no_repr (by decide +kernel) (pa_cons (pv 0) pa_nil)) (pe_callB (call_reprD hgd (hr.mono (by decide))) (by rfl) T.no_repr (by decide +kernel) (pa_cons (pv 1) pa_nil)) (nomark _))))))), ?_⟩
    show tSeq _ _ _ [some x, some y] H
    obtain ⟨n, hn, hk⟩ := ty_data hy
    simp only [rIsi, rEqD, rReprD, rEq, tSeq, tIfS, tOp, tVar, tC, tCB, tCons, tNil, rI0, rI, tTest, tRet, tRetN, tNext, tAsg, gName, gNil, gCons, gTup, gUnl, tLst, tTup, tCall, tMeth, tMake, tUn, rU, tAndV, tOrV, tNotV, tAnd, tOr, tNot, tIf, tB, tFld, tDrop, tPar, tNever, tBM, rAppend, tSl, tPart, tNoPart, tM1, tyLst, List.getElem?_cons_zero, List.getElem?_cons_succ, Option.some.injEq, exists_eq_left', exists_eq_left, V.int.injEq, V.bl.injEq, V.str.injEq, V.ref.injEq, List.set_cons_zero, List.set_cons_succ, exists_and_left, exists_and_right, and_assoc, List.cons.injEq, and_true, true_and, List.cons_append, List.nil_append, List.append_nil, List.length_cons, List.length_nil, exists_eq', exists_eq, exists_const, exists_eq_right, exists_eq_right', cxK, Cx.nox, Cx.wish]
    refine ⟨_, _, .ty "dict", hn, false, hk, iteF ?_⟩
    refine ⟨d, hx, d, hy, nt.shaped, nt.shaped, ?_⟩
    rw [if_pos nt.refl]
    refine ⟨d, hx, nt.show_, nt.noDict, nt.deep, nt.len, d, hy, nt.show_, nt.noDict, nt.deep, nt.len, rfl, ?_⟩
    rw [decide_eq_true rfl]
    exact q

/-! ### the law -/
def Lists (L : List Addr) (H : Hp) (b : Nat) : Prop := ∀ h ∈ L, ∃ xs, H h = some (.lst xs) ∧ 1 ≤ xs.length ∧ xs.length ≤ b
theorem Lists.ext {L : List Addr} {H H' : Hp} {b : Nat} (h : Lists L H b) (e : Ext H H') : Lists L H' b := fun q hq => by
  obtain ⟨xs, h1, h2, h3⟩ := h q hq
  exact ⟨xs, e _ _ h1, h2, h3⟩
theorem Lists.mono {L : List Addr} {H : Hp} {b c : Nat} (h : Lists L H b) (hc : b ≤ c) : Lists L H c := fun q hq => by
  obtain ⟨xs, h1, h2, h3⟩ := h q hq
  exact ⟨xs, h1, h2, by omega⟩
theorem Lists.upd {L : List Addr} {H : Hp} {b : Nat} {q : Addr} {ys : List V} (h : Lists L H b) (h1 : 1 ≤ ys.length) (h2 : ys.length ≤ b) : Lists L (L2.upd H q (.lst ys)) b := fun r hr => by
  by_cases e : r = q
  · rw [e]
    exact ⟨ys, upd_same, h1, h2⟩
  · obtain ⟨xs, h1, h2, h3⟩ := h r hr
    exact ⟨xs, by rw [upd_ne e]; exact h1, h2, h3⟩
theorem WorldAt.upd {C : Addr} {H : Hp} {p q : Addr} {rs rs2 : List (Str × Int)} {xs : List V} {u : HO} (h : WorldAt C H p rs rs2) (hq : H q = some (.lst xs)) : WorldAt C (L2.upd H q u) p rs rs2 := by
  obtain ⟨dx, d, d2, h1, h2, h3⟩ := h
  have k : ∀ {b : Addr} {o : HO}, H b = some o → (∀ ys, o ≠ .lst ys) → L2.upd H q u b = some o := fun {b o} hb hne => by
    rw [upd_ne (fun e => by rw [e, hq] at hb; exact hne xs (Option.some.inj hb).symm)]
    exact hb
  exact ⟨dx, d, d2, k h1 (fun ys z => by cases z), k h2 (fun ys z => by cases z), k h3 (fun ys z => by cases z)⟩
theorem nn {H H' : Hp} {p : Addr} (e : Ext H H') (h : H' p = none) : H p = none := by
  cases z : H p with
  | none => rfl
  | some o => rw [e _ _ z] at h; cases h
theorem ext_make {H H' : Hp} {x dx C : Addr} (hx : H x = none) (hd : H dx = none) (k : ∀ b o, L2.upd (L2.upd H dx (.own x)) x (.ins C dx []) b = some o → b ≠ x → H' b = some o) : Ext H H' := fun b o hb =>
  k b o (by rw [upd_ne (ne_of_none hb hx), upd_ne (ne_of_none hb hd)]; exact hb) (ne_of_none hb hx)
theorem OkRows.mild {b : Int} {rs : List (Str × Int)} (h : OkRows b rs) (hb : b ≤ 1000000000) (hl : rs.length ≤ 8) : Mild (.list (rs.map rowD)) 40000 2 := by
  refine (Mild.list (n := 4000) (k := 1) (m := 8) (fun d hd => ?_) (by rw [List.length_map]; exact hl)).mono (by decide) (Nat.le_refl _)
  obtain ⟨r, hr, rfl⟩ := List.mem_map.mp hd
  obtain ⟨k, hk, _, h6⟩ := h.good.each r.1 (List.mem_map.mpr ⟨r, hr, rfl⟩)
  have hn := h.num r hr
  refine Mild.row hk.small (by omega) ?_
  by_cases h0 : r.2.natAbs = 0
  · omega
  · exact (Nat.log2_lt h0).mpr (Nat.lt_of_lt_of_le (show r.2.natAbs < 2 ^ 40 by omega) (Nat.pow_le_pow_right (by decide) (by decide)))
theorem ixN_0 {n : Nat} (h : 0 < n) : ixN n 0 = some 0 := by
  unfold ixN
  simp [h]
theorem fsW_no {d d2 : Addr} {m : Str} (h1 : ¬ m = "_shares") (h2 : ¬ m = "_rates") : (fsW d d2).lookup m = none := by
  unfold fsW
  rw [lookup_putF, if_neg h1, lookup_putF, if_neg h2]
  rfl
def spLaw (K : PySem.W.Frag) : Sp := fun vs H Q _ => ∃ (l : Addr) (ns : List Int), vs = [.ref l] ∧ SqL K H l (ns.map V.int) ∧ ns.length ≤ 63 ∧ ∀ H', Q (.bl true) H'
theorem ok_law (T : Tx a K mg w) : FnG P w K mg base CX0 5 a.f_law a.d_law ps_law (spLaw K) := by
  refine okG T.F_law sc_law (fun vs H Q E h => ?_) (fun cdv A outer s H vs Q E hgd hr h => ?_)
  · obtain ⟨l, ns, rfl, _⟩ := h
    rfl
  · obtain ⟨l, ns, rfl, hs, hn, q⟩ := h
    have G_l_digits := ok_l_digits (P := P) (w := w) (base := base) T
    have B_l_digits := bnd_l_digits T
    have hr_l_digits : Room 2 _ := hr.mono (by decide)
    have G_l_world := ok_l_world (P := P) (w := w) (base := base) T
    have B_l_world := bnd_l_world T
    have hr_l_world : Room 4 _ := hr.mono (by decide)
    have G_World_init := ok_World_init (P := P) (w := w) (base := base) T
    have B_World_init := bnd_World_init T
    have hr_World_init : Room 3 _ := hr.mono (by decide)
    have hr1_World_init : Room 4 _ := hr.mono (by decide)
    have G_World_coin_rows := ok_World_coin_rows (P := P) (w := w) (base := base) T
    have B_World_coin_rows := bnd_World_coin_rows T
    have hr_World_coin_rows : Room 1 _ := hr.mono (by decide)
    have G_World_house_rows := ok_World_house_rows (P := P) (w := w) (base := base) T
    have B_World_house_rows := bnd_World_house_rows T
    have hr_World_house_rows : Room 1 _ := hr.mono (by decide)
    have G_l_same := ok_l_same (P := P) (w := w) (base := base) T
    have B_l_same := bnd_l_same T
    have hr_l_same : Room 2 _ := hr.mono (by decide)
    refine ⟨_, (pss_cons (ps_set (i := 0) sc_law.nd rfl (by first | exact Or.inl rfl | exact Or.inr rfl) (pe_slice sl_list (pv 0) po_none (po_some pe_int)))
      (pss_cons (ps_asg (pe_call G_l_digits hr_l_digits (by rfl) T.mg_l_digits T.F_l_digits.kp B_l_digits .nil pass0 (pa_cons (pv 0) (pa_cons pe_int (pa_cons (pe_lst (pa_cons pe_int (pa_cons pe_int (pa_cons pe_int (pa_cons pe_int (pa_cons pe_int pa_nil)))))) pa_nil)))) (pg_unl rfl (pgs_cons (pg_name (i := 1) sc_law.nd rfl (by first | exact Or.inl rfl | exact Or.inr rfl)) (pgs_cons (pg_name (i := 2) sc_law.nd rfl (by first | exact Or.inl rfl | exact Or.inr rfl)) (pgs_cons (pg_name (i := 3) sc_law.nd rfl (by first | exact Or.inl rfl | exact Or.inr rfl)) (pgs_cons (pg_name (i := 4) sc_law.nd rfl (by first | exact Or.inl rfl | exact Or.inr rfl)) (pgs_cons (pg_name (i := 5) sc_law.nd rfl (by first | exact Or.inl rfl | exact Or.inr rfl)) pgs_nil))))) (by rfl)))
      (pss_cons (ps_set (i := 6) sc_law.nd rfl (by first | exact Or.inl rfl | exact Or.inr rfl) (pe_call G_l_world hr_l_world (by rfl) T.mg_l_world T.F_l_world.kp B_l_world .nil pass0 (pa_cons (pv 0) (pa_cons pe_int (pa_cons (pe_op op_add pe_int (pv 1)) (pa_cons (pe_op op_add pe_int (pv 2)) pa_nil))))))
      (pss_cons (ps_set (i := 7) sc_law.nd rfl (by first | exact Or.inl rfl | exact Or.inr rfl) (pe_call G_l_world hr_l_world (by rfl) T.mg_l_world T.F_l_world.kp B_l_world .nil pass0 (pa_cons (pv 0) (pa_cons pe_int (pa_cons (pe_op op_add pe_int (pv 3)) (pa_cons (pe_op op_add pe_int (pv 4)) pa_nil))))))
      (pss_cons (ps_if (pt_cmpR op_eq (pv 5) pe_int (nomark _)) (pss_one (ps_set (i := 7) sc_law.nd rfl (by first | exact Or.inl rfl | exact Or.inr rfl) (pe_tup (pa_cons (pe_ix ix_tup (pv 7) pe_int (fun _ _ => rfl)) (pa_cons (pe_lst (pa_cons (pe_tup (pa_cons (pe_ix ix_tup (pe_ix ix_list (pe_ix ix_tup (pv 7) pe_int (fun _ _ => rfl)) pe_int (fun _ _ => rfl)) pe_int (fun _ _ => rfl)) (pa_cons pe_int pa_nil))) pa_nil)) pa_nil))))) pss_nil)
      (pss_cons (ps_set (i := 8) sc_law.nd rfl (by first | exact Or.inl rfl | exact Or.inr rfl) (pe_lst (pa_cons (pe_callTy call_list_of (by rfl) T.no_list (by decide +kernel) (pa_cons (pe_ix ix_tup (pv 6) pe_int (fun _ _ => rfl)) pa_nil)) (pa_cons (pe_callTy call_list_of (by rfl) T.no_list (by decide +kernel) (pa_cons (pe_ix ix_tup (pv 6) pe_int (fun _ _ => rfl)) pa_nil)) (pa_cons (pe_callTy call_list_of (by rfl) T.no_list (by decide +kernel) (pa_cons (pe_ix ix_tup (pv 7) pe_int (fun _ _ => rfl)) pa_nil)) (pa_cons (pe_callTy call_list_of (by rfl) T.no_list (by decide +kernel) (pa_cons (pe_ix ix_tup (pv 7) pe_int (fun _ _ => rfl)) pa_nil)) pa_nil))))))
      (pss_cons (ps_set (i := 9) sc_law.nd rfl (by first | exact Or.inl rfl | exact Or.inr rfl) (pe_make T.mk_World G_World_init hr1_World_init (by rfl) T.mg_World B_World_init .nil pass0 (pa_cons (pe_ix ix_list (pv 8) pe_int (fun _ _ => rfl)) (pa_cons (pe_ix ix_list (pv 8) pe_int (fun _ _ => rfl)) pa_nil))))
      (pss_cons (ps_set (i := 10) sc_law.nd rfl (by first | exact Or.inl rfl | exact Or.inr rfl) (pe_make T.mk_World G_World_init hr1_World_init (by rfl) T.mg_World B_World_init .nil pass0 (pa_cons (pe_ix ix_list (pv 8) pe_int (fun _ _ => rfl)) (pa_cons (pe_ix ix_list (pv 8) pe_int (fun _ _ => rfl)) pa_nil))))
      (pss_cons (ps_for PassesOwn.never rfl (pi_list (pv 8)) (pg_name (i := 11) sc_law.nd rfl (by first | exact Or.inl rfl | exact Or.inr rfl))
        (pss_cons (ps_expr (pe_bm PySem.F.plainAttrs_list PySem.F.slot_list_append PySem.F.type_list_append mt_append (pv 11) (pa_cons (pe_tup (pa_cons pe_str (pa_cons pe_int pa_nil))) pa_nil)))
        (pss_one (ps_asg (pe_tup (pa_cons pe_str (pa_cons pe_int pa_nil))) (pg_sub (pv 11) pe_int set_list)))))
      (pss_cons (ps_for PassesOwn.never rfl (pi_range1 rfl T.no_range (pa_cons pe_int pa_nil)) (pg_name (i := 12) sc_law.nd rfl (by first | exact Or.inl rfl | exact Or.inr rfl))
        (pss_cons (ps_set (i := 13) sc_law.nd rfl (by first | exact Or.inl rfl | exact Or.inr rfl) (pe_lst (pa_cons (pe_meth0 (pv 9) T.cl_World T.m_World_coin_rows G_World_coin_rows hr_World_coin_rows B_World_coin_rows .nil pass0) (pa_cons (pe_meth0 (pv 10) T.cl_World T.m_World_coin_rows G_World_coin_rows hr_World_coin_rows B_World_coin_rows .nil pass0) (pa_cons (pe_meth0 (pv 9) T.cl_World T.m_World_house_rows G_World_house_rows hr_World_house_rows B_World_house_rows .nil pass0) (pa_cons (pe_meth0 (pv 10) T.cl_World T.m_World_house_rows G_World_house_rows hr_World_house_rows B_World_house_rows .nil pass0) pa_nil))))))
        (pss_cons (ps_if (pt_not (pt_val (pe_callG G_l_same hgd hr_l_same (by rfl) T.mg_l_same T.F_l_same.kp B_l_same pass0 (pa_cons (pv 13) (pa_cons (pe_lst (pa_cons (pe_ix ix_tup (pv 6) pe_int (fun _ _ => rfl)) (pa_cons (pe_ix ix_tup (pv 7) pe_int (fun _ _ => rfl)) (pa_cons (pe_ix ix_tup (pv 6) pe_int (fun _ _ => rfl)) (pa_cons (pe_ix ix_tup (pv 7) pe_int (fun _ _ => rfl)) pa_nil))))) pa_nil))))) (pss_one (ps_ret pe_bl)) pss_nil)
        (pss_cons (ps_expr (pe_bm0 PySem.F.plainAttrs_list PySem.F.slot_list_clear PySem.F.type_list_clear mt_clear (pe_ix ix_list (pv 13) pe_int (fun _ _ => rfl))))
        (pss_cons (ps_expr (pe_bm PySem.F.plainAttrs_list PySem.F.slot_list_append PySem.F.type_list_append mt_append (pe_ix ix_list (pv 13) pe_int (fun _ _ => rfl)) (pa_cons (pe_tup (pa_cons pe_str (pa_cons pe_int pa_nil))) pa_nil)))
        (pss_cons (ps_expr (pe_bm0 PySem.F.plainAttrs_list PySem.F.slot_list_reverse PySem.F.type_list_reverse mt_reverse (pe_ix ix_list (pv 13) pe_int (fun _ _ => rfl))))
        (pss_one (ps_expr (pe_bm0 PySem.F.plainAttrs_list PySem.F.slot_list_pop PySem.F.type_list_pop mt_pop (pe_ix ix_list (pv 13) pe_int (fun _ _ => rfl)))))))))))
      (pss_one (ps_ret pe_bl)))))))))))), ?_⟩
    show tSeq _ _ _ [some (V.ref l), none, none, none, none, none, none, none, none, none, none, none, none, none] H
    refine seq_i fun N hN => ?_
    simp only [rSlL, tSeq, tIfS, tOp, tVar, tC, tCB, tCons, tNil, rI0, rI, tTest, tRet, tRetN, tNext, tAsg, gName, gNil, gCons, gTup, gUnl, tLst, tTup, tCall, tMeth, tMake, tUn, rU, tAndV, tOrV, tNotV, tAnd, tOr, tNot, tIf, tB, tFld, tDrop, tPar, tNever, tBM, rAppend, tSl, tPart, tNoPart, tM1, tyLst, List.getElem?_cons_zero, List.getElem?_cons_succ, Option.some.injEq, exists_eq_left', exists_eq_left, V.int.injEq, V.bl.injEq, V.str.injEq, V.ref.injEq, List.set_cons_zero, List.set_cons_succ, exists_and_left, exists_and_right, and_assoc, List.cons.injEq, and_true, true_and, List.cons_append, List.nil_append, List.append_nil, List.length_cons, List.length_nil, exists_eq', exists_eq, exists_const, exists_eq_right, exists_eq_right', cxK, Cx.nox, Cx.wish]
    refine ⟨_, hs, fun p0 hp0 => ?_⟩
    obtain ⟨ms, em, hm⟩ := cut_ints ns none (some 63)
    rw [em]
    generalize hH0 : upd H p0 _ = H0
    obtain ⟨_, f0⟩ := alloc hp0 hH0
    clear hH0
    refine hN _ _ ?_
    clear hN N
    have s0 : SqL K H0 p0 (ms.map V.int) := ofL f0
    -- what is drawn
    refine seq_i fun N hN => ?_
    simp only [tSeq, tIfS, tOp, tVar, tC, tCB, tCons, tNil, rI0, rI, tTest, tRet, tRetN, tNext, tAsg, gName, gNil, gCons, gTup, gUnl, tLst, tTup, tCall, tMeth, tMake, tUn, rU, tAndV, tOrV, tNotV, tAnd, tOr, tNot, tIf, tB, tFld, tDrop, tPar, tNever, tBM, rAppend, tSl, tPart, tNoPart, tM1, tyLst, List.getElem?_cons_zero, List.getElem?_cons_succ, Option.some.injEq, exists_eq_left', exists_eq_left, V.int.injEq, V.bl.injEq, V.str.injEq, V.ref.injEq, List.set_cons_zero, List.set_cons_succ, exists_and_left, exists_and_right, and_assoc, List.cons.injEq, and_true, true_and, List.cons_append, List.nil_append, List.append_nil, List.length_cons, List.length_nil, exists_eq', exists_eq, exists_const, exists_eq_right, exists_eq_right', cxK, Cx.nox, Cx.wish]
    refine ⟨by decide, fun pz hpz => ?_⟩
    generalize hH1 : upd H0 pz _ = H1
    obtain ⟨e1, f1⟩ := alloc hpz hH1
    refine ⟨p0, pz, ms, [5, 8, 5, 8, 2], 0, rfl, seqL s0 e1, by omega, by omega, by omega, ofL f1, (by decide), (by decide), fun ds pd hd hpd => ?_⟩
    obtain ⟨m1, m2, m3, m4, al, rfl, ⟨a0, a1⟩, ⟨b0, b1⟩, ⟨c0, c1⟩, ⟨d0, d1⟩, ⟨g0, g1⟩⟩ := drawn5 hd
    generalize hH2 : upd H1 pd _ = H2
    obtain ⟨e2, f2⟩ := alloc hpd hH2
    refine ⟨pd, rfl, _, ofL f2, rfl, ?_⟩
    simp only [List.map_cons, List.map_nil, tSeq, tIfS, tOp, tVar, tC, tCB, tCons, tNil, rI0, rI, tTest, tRet, tRetN, tNext, tAsg, gName, gNil, gCons, gTup, gUnl, tLst, tTup, tCall, tMeth, tMake, tUn, rU, tAndV, tOrV, tNotV, tAnd, tOr, tNot, tIf, tB, tFld, tDrop, tPar, tNever, tBM, rAppend, tSl, tPart, tNoPart, tM1, tyLst, List.getElem?_cons_zero, List.getElem?_cons_succ, Option.some.injEq, exists_eq_left', exists_eq_left, V.int.injEq, V.bl.injEq, V.str.injEq, V.ref.injEq, List.set_cons_zero, List.set_cons_succ, exists_and_left, exists_and_right, and_assoc, List.cons.injEq, and_true, true_and, List.cons_append, List.nil_append, List.append_nil, List.length_cons, List.length_nil, exists_eq', exists_eq, exists_const, exists_eq_right, exists_eq_right', cxK, Cx.nox, Cx.wish]
    refine hN _ _ ?_
    clear hN N
    have s2 : SqL K H2 p0 (ms.map V.int) := seqL s0 (e1.trans e2)
    clear hH1 hH2 e1 e2 f1 f2 hpz hpd hd s0 f0
    -- the two worlds' rows
    refine seq_i fun N hN => ?_
    simp only [tSeq, tIfS, tOp, tVar, tC, tCB, tCons, tNil, rI0, rI, tTest, tRet, tRetN, tNext, tAsg, gName, gNil, gCons, gTup, gUnl, tLst, tTup, tCall, tMeth, tMake, tUn, rU, tAndV, tOrV, tNotV, tAnd, tOr, tNot, tIf, tB, tFld, tDrop, tPar, tNever, tBM, rAppend, tSl, tPart, tNoPart, tM1, tyLst, List.getElem?_cons_zero, List.getElem?_cons_succ, Option.some.injEq, exists_eq_left', exists_eq_left, V.int.injEq, V.bl.injEq, V.str.injEq, V.ref.injEq, List.set_cons_zero, List.set_cons_succ, exists_and_left, exists_and_right, and_assoc, List.cons.injEq, and_true, true_and, List.cons_append, List.nil_append, List.append_nil, List.length_cons, List.length_nil, exists_eq', exists_eq, exists_const, exists_eq_right, exists_eq_right', cxK, Cx.nox, Cx.wish]
    refine ⟨p0, ms, 1, 1 + m1, 1 + m2, rfl, s2, by omega, by omega, by omega, by omega, by omega, by omega, by omega, fun rs1 rs2 p1 p2 pt1 H3 ok1 ok2 l1 l2 e3 R1 R2 T1 => ?_⟩
    refine hN _ _ ?_
    clear hN N
    refine seq_i fun N hN => ?_
    simp only [tSeq, tIfS, tOp, tVar, tC, tCB, tCons, tNil, rI0, rI, tTest, tRet, tRetN, tNext, tAsg, gName, gNil, gCons, gTup, gUnl, tLst, tTup, tCall, tMeth, tMake, tUn, rU, tAndV, tOrV, tNotV, tAnd, tOr, tNot, tIf, tB, tFld, tDrop, tPar, tNever, tBM, rAppend, tSl, tPart, tNoPart, tM1, tyLst, List.getElem?_cons_zero, List.getElem?_cons_succ, Option.some.injEq, exists_eq_left', exists_eq_left, V.int.injEq, V.bl.injEq, V.str.injEq, V.ref.injEq, List.set_cons_zero, List.set_cons_succ, exists_and_left, exists_and_right, and_assoc, List.cons.injEq, and_true, true_and, List.cons_append, List.nil_append, List.append_nil, List.length_cons, List.length_nil, exists_eq', exists_eq, exists_const, exists_eq_right, exists_eq_right', cxK, Cx.nox, Cx.wish]
    refine ⟨p0, ms, 9, 1 + m3, 1 + m4, rfl, seqL s2 e3, by omega, by omega, by omega, by omega, by omega, by omega, by omega, fun rs3 rs4' p3 p4' pt2' H4 ok3 ok4' l3 l4' e4 R3 R4' T2' => ?_⟩
    refine hN _ _ ?_
    clear hN N
    have R1 := R1.ext e4
    have R2 := R2.ext e4
    have T1 := e4 _ _ T1
    have L1 : 1 ≤ rs1.length ∧ rs1.length ≤ 5 := by omega
    have L2 : 1 ≤ rs2.length ∧ rs2.length ≤ 8 := by omega
    have L3 : 1 ≤ rs3.length ∧ rs3.length ≤ 5 := by omega
    have L4' : 1 ≤ rs4'.length ∧ rs4'.length ≤ 8 := by omega
    clear s2 e3 e4 a0 a1 b0 b1 c0 c1 d0 d1 l1 l2 l3 l4'
    -- alike
    refine seq_i fun N hN => ?_
    suffices fin : ∀ (p4 pt2 : Addr) (rs4 : List (Str × Int)) (H5 : Hp), Ext H4 H5 → OkRows 1000000 rs4 → 1 ≤ rs4.length ∧ rs4.length ≤ 8 → RowsAt H5 p4 rs4 → H5 pt2 = some (.tup [.ref p3, .ref p4]) →
        N [some (V.ref p0), some (V.int m1), some (V.int m2), some (V.int m3), some (V.int m4), some (V.int al), some (V.ref pt1), some (V.ref pt2), none, none, none, none, none, none] H5 by
      simp only [rIxT, rIxL, rEq, tSeq, tIfS, tOp, tVar, tC, tCB, tCons, tNil, rI0, rI, tTest, tRet, tRetN, tNext, tAsg, gName, gNil, gCons, gTup, gUnl, tLst, tTup, tCall, tMeth, tMake, tUn, rU, tAndV, tOrV, tNotV, tAnd, tOr, tNot, tIf, tB, tFld, tDrop, tPar, tNever, tBM, rAppend, tSl, tPart, tNoPart, tM1, tyLst, List.getElem?_cons_zero, List.getElem?_cons_succ, Option.some.injEq, exists_eq_left', exists_eq_left, V.int.injEq, V.bl.injEq, V.str.injEq, V.ref.injEq, List.set_cons_zero, List.set_cons_succ, exists_and_left, exists_and_right, and_assoc, List.cons.injEq, and_true, true_and, List.cons_append, List.nil_append, List.append_nil, List.length_cons, List.length_nil, exists_eq', exists_eq, exists_const, exists_eq_right, exists_eq_right', cxK, Cx.nox, Cx.wish]
      refine ⟨rfl, ite2 (fun _ => ?_) (fun _ => fin p4' pt2' rs4' H4 (Ext.refl' _) ok4' L4' R4' T2')⟩
      obtain ⟨ts3, h3, hR3⟩ := R3
      obtain ⟨r, rs3', rfl⟩ : ∃ r rs', rs3 = r :: rs' := by
        cases rs3 with
        | nil => exact absurd L3.1 (by decide)
        | cons r t => exact ⟨r, t, rfl⟩
      cases hR3 with
      | cons ht _ =>
        refine ⟨_, ofT T2', _, atI_0, _, ofT T2', _, atI_0, p3, rfl, _, ofL h3, _, atI_0, _, rfl, _, ofT ht, _, atI_0, by decide, fun q1 hq1 => ⟨by decide, fun q2 hq2 => ⟨by decide, fun q3 hq3 => ?_⟩⟩⟩
        generalize E1 : upd H4 q1 _ = H5 at hq2 hq3 ⊢
        obtain ⟨e5, f5⟩ := alloc hq1 E1
        generalize E2 : upd H5 q2 _ = H6 at hq3 ⊢
        obtain ⟨e6, f6⟩ := alloc hq2 E2
        generalize E3 : upd H6 q3 _ = H7
        obtain ⟨e7, f7⟩ := alloc hq3 E3
        refine fin q2 q3 [(r.1, 7)] H7 (e5.trans (e6.trans e7)) ⟨⟨fun n hn => ?_, ?_⟩, fun x hx => ?_⟩ ⟨Nat.le_refl _, (by show 1 ≤ 8; decide)⟩ ⟨[q1], e7 _ _ f6, .cons (e7 _ _ (e6 _ _ f5)) .nil⟩ f7
        · rw [List.mem_singleton.mp hn]
          exact ok3.good.each r.1 List.mem_cons_self
        · show [r.1].Nodup
          simp
        · rw [List.mem_singleton.mp hx]
          exact ⟨(by show (1 : Int) ≤ 7; decide), (by show (7 : Int) ≤ 1000000; decide)⟩
    intro p4 pt2 rs4 H5 e5 ok4 L4 R4 T2
    refine hN _ _ ?_
    clear hN N R4' T2' ok4' L4'
    have R1 := R1.ext e5
    have R2 := R2.ext e5
    have R3 := R3.ext e5
    have T1 := e5 _ _ T1
    clear e5
    -- what is handed over
    refine seq_i fun N hN => ?_
    simp only [rIxT, tSeq, tIfS, tOp, tVar, tC, tCB, tCons, tNil, rI0, rI, tTest, tRet, tRetN, tNext, tAsg, gName, gNil, gCons, gTup, gUnl, tLst, tTup, tCall, tMeth, tMake, tUn, rU, tAndV, tOrV, tNotV, tAnd, tOr, tNot, tIf, tB, tFld, tDrop, tPar, tNever, tBM, rAppend, tSl, tPart, tNoPart, tM1, tyLst, List.getElem?_cons_zero, List.getElem?_cons_succ, Option.some.injEq, exists_eq_left', exists_eq_left, V.int.injEq, V.bl.injEq, V.str.injEq, V.ref.injEq, List.set_cons_zero, List.set_cons_succ, exists_and_left, exists_and_right, and_assoc, List.cons.injEq, and_true, true_and, List.cons_append, List.nil_append, List.append_nil, List.length_cons, List.length_nil, exists_eq', exists_eq, exists_const, exists_eq_right, exists_eq_right', cxK, Cx.nox, Cx.wish]
    obtain ⟨ts1, h1, hR1⟩ := R1
    obtain ⟨ts2, h2, hR2⟩ := R2
    obtain ⟨ts3, h3, hR3⟩ := R3
    obtain ⟨ts4, h4, hR4⟩ := R4
    refine ⟨_, ofT T1, _, atI_0, p1, rfl, _, .inl (ofL h1), fun g1 hg1 => ?_⟩
    generalize E1 : upd H5 g1 _ = H6
    obtain ⟨e6, f6⟩ := alloc hg1 E1
    refine ⟨_, ofT (e6 _ _ T1), _, atI_1, p2, rfl, _, .inl (ofL (e6 _ _ h2)), fun g2 hg2 => ?_⟩
    generalize E2 : upd H6 g2 _ = H7
    obtain ⟨e7, f7⟩ := alloc hg2 E2
    have e57 := e6.trans e7
    refine ⟨_, ofT (e57 _ _ T2), _, atI_0, p3, rfl, _, .inl (ofL (e57 _ _ h3)), fun g3 hg3 => ?_⟩
    generalize E3 : upd H7 g3 _ = H8
    obtain ⟨e8, f8⟩ := alloc hg3 E3
    have e58 := e57.trans e8
    refine ⟨_, ofT (e58 _ _ T2), _, atI_1, p4, rfl, _, .inl (ofL (e58 _ _ h4)), fun g4 hg4 => ?_⟩
    generalize E4 : upd H8 g4 _ = H9
    obtain ⟨e9, f9⟩ := alloc hg4 E4
    have e59 := e58.trans e9
    refine ⟨by decide, fun ph hph => ?_⟩
    generalize E5 : upd H9 ph _ = H10
    obtain ⟨e10, f10⟩ := alloc hph E5
    refine hN _ _ ?_
    clear hN N E1 E2 E3 E4 E5
    have e5x : Ext H5 H10 := e59.trans e10
    have n1 : H5 g1 = none := hg1
    have n2 : H5 g2 = none := nn e6 hg2
    have n3 : H5 g3 = none := nn e57 hg3
    have n4 : H5 g4 = none := nn e58 hg4
    have k1 := e10 _ _ (e9 _ _ (e8 _ _ (e7 _ _ f6)))
    have k2 := e10 _ _ (e9 _ _ (e8 _ _ f7))
    have k3 := e10 _ _ (e9 _ _ f8)
    have k4 := e10 _ _ f9
    have x1 := hR1.ext e5x
    have x2 := hR2.ext e5x
    have x3 := hR3.ext e5x
    have x4 := hR4.ext e5x
    have np1 : ph ≠ g1 := fun e => by rw [e, e9 _ _ (e8 _ _ (e7 _ _ f6))] at hph; cases hph
    have np2 : ph ≠ g2 := fun e => by rw [e, e9 _ _ (e8 _ _ f7)] at hph; cases hph
    have np3 : ph ≠ g3 := fun e => by rw [e, e9 _ _ f8] at hph; cases hph
    have np4 : ph ≠ g4 := fun e => by rw [e, f9] at hph; cases hph
    clear hg1 hg2 hg3 hg4 e6 e7 e8 e9 e57 e58 e59 hph f6 f7 f8 f9 e10
    -- two worlds
    refine seq_i fun N hN => ?_
    simp only [rIxL, tSeq, tIfS, tOp, tVar, tC, tCB, tCons, tNil, rI0, rI, tTest, tRet, tRetN, tNext, tAsg, gName, gNil, gCons, gTup, gUnl, tLst, tTup, tCall, tMeth, tMake, tUn, rU, tAndV, tOrV, tNotV, tAnd, tOr, tNot, tIf, tB, tFld, tDrop, tPar, tNever, tBM, rAppend, tSl, tPart, tNoPart, tM1, tyLst, List.getElem?_cons_zero, List.getElem?_cons_succ, Option.some.injEq, exists_eq_left', exists_eq_left, V.int.injEq, V.bl.injEq, V.str.injEq, V.ref.injEq, List.set_cons_zero, List.set_cons_succ, exists_and_left, exists_and_right, and_assoc, List.cons.injEq, and_true, true_and, List.cons_append, List.nil_append, List.append_nil, List.length_cons, List.length_nil, exists_eq', exists_eq, exists_const, exists_eq_right, exists_eq_right', cxK, Cx.nox, Cx.wish]
    refine ⟨_, ofL f10, _, atI_0, _, ofL f10, _, atI_1, fun w1 dx1 hw1 hdx1 _ => ?_⟩
    have up : ∀ {u : HO} {p2 : Addr} {o : HO}, H10 p2 = some o → upd (upd H10 dx1 (.own w1)) w1 u p2 = some o := fun {u p2 o} z => by
      rw [upd_ne (ne_of_none z hw1), upd_ne (ne_of_none z hdx1)]
      exact z
    refine ⟨w1, dx1, g1, g2, rs1, rs2, rfl, upd_same, ⟨ts1, up k1, pmono (fun t r z => up z) x1⟩, ⟨ts2, up k2, pmono (fun t r z => up z) x2⟩, ok1, ok2, L1.1, L1.2, L2.1, L2.2, fun H11 kp11 W1 => ⟨rfl, ?_⟩⟩
    have e11 : Ext H10 H11 := ext_make hw1 hdx1 kp11
    refine hN _ _ ?_
    clear hN N up kp11
    refine seq_i fun N hN => ?_
    simp only [rIxL, tSeq, tIfS, tOp, tVar, tC, tCB, tCons, tNil, rI0, rI, tTest, tRet, tRetN, tNext, tAsg, gName, gNil, gCons, gTup, gUnl, tLst, tTup, tCall, tMeth, tMake, tUn, rU, tAndV, tOrV, tNotV, tAnd, tOr, tNot, tIf, tB, tFld, tDrop, tPar, tNever, tBM, rAppend, tSl, tPart, tNoPart, tM1, tyLst, List.getElem?_cons_zero, List.getElem?_cons_succ, Option.some.injEq, exists_eq_left', exists_eq_left, V.int.injEq, V.bl.injEq, V.str.injEq, V.ref.injEq, List.set_cons_zero, List.set_cons_succ, exists_and_left, exists_and_right, and_assoc, List.cons.injEq, and_true, true_and, List.cons_append, List.nil_append, List.append_nil, List.length_cons, List.length_nil, exists_eq', exists_eq, exists_const, exists_eq_right, exists_eq_right', cxK, Cx.nox, Cx.wish]
    have f11 := e11 _ _ f10
    have hat2 : atI [V.ref g1, V.ref g2, V.ref g3, V.ref g4] 2 = some (.ref g3) := rfl
    have hat3 : atI [V.ref g1, V.ref g2, V.ref g3, V.ref g4] 3 = some (.ref g4) := rfl
    refine ⟨_, ofL f11, _, hat2, _, ofL f11, _, hat3, fun w2 dx2 hw2 hdx2 _ => ?_⟩
    have up : ∀ {u : HO} {p2 : Addr} {o : HO}, H11 p2 = some o → upd (upd H11 dx2 (.own w2)) w2 u p2 = some o := fun {u p2 o} z => by
      rw [upd_ne (ne_of_none z hw2), upd_ne (ne_of_none z hdx2)]
      exact z
    refine ⟨w2, dx2, g3, g4, rs3, rs4, rfl, upd_same, ⟨ts3, up (e11 _ _ k3), pmono (fun t r z => up (e11 _ _ z)) x3⟩, ⟨ts4, up (e11 _ _ k4), pmono (fun t r z => up (e11 _ _ z)) x4⟩, ok3, ok4, L3.1, L3.2, L4.1, L4.2, fun H12 kp12 W2 => ⟨rfl, ?_⟩⟩
    have e12 : Ext H11 H12 := ext_make hw2 hdx2 kp12
    refine hN _ _ ?_
    clear hN N up kp12
    have W1 := W1.ext e12
    have f12 := e12 _ _ f11
    have e5y : Ext H5 H12 := e5x.trans (e11.trans e12)
    have ll : ∀ {ts : List Addr} {rs : List (Str × Int)} {H : Hp}, RowsIn H ts rs → 1 ≤ rs.length → rs.length ≤ 8 → 1 ≤ (ts.map V.ref).length ∧ (ts.map V.ref).length ≤ 8 := fun {ts rs H} h a b => by
      rw [List.length_map, h.len]
      exact ⟨a, b⟩
    have LL : Lists [g1, g2, g3, g4] H12 8 := by
      have k1 := e12 _ _ (e11 _ _ k1)
      have k2 := e12 _ _ (e11 _ _ k2)
      have k3 := e12 _ _ (e11 _ _ k3)
      have k4 := e12 _ _ (e11 _ _ k4)
      intro g hg
      rcases List.mem_cons.mp hg with rfl | hg
      · exact ⟨_, k1, ll hR1 L1.1 (by omega)⟩
      rcases List.mem_cons.mp hg with rfl | hg
      · exact ⟨_, k2, ll hR2 L2.1 L2.2⟩
      rcases List.mem_cons.mp hg with rfl | hg
      · exact ⟨_, k3, ll hR3 L3.1 (by omega)⟩
      · rw [List.mem_singleton.mp hg]
        exact ⟨_, k4, ll hR4 L4.1 L4.2⟩
    have hnew : ∀ g ∈ [g1, g2, g3, g4], H5 g = none ∧ ph ≠ g := by
      intro g hg
      rcases List.mem_cons.mp hg with rfl | hg
      · exact ⟨n1, np1⟩
      rcases List.mem_cons.mp hg with rfl | hg
      · exact ⟨n2, np2⟩
      rcases List.mem_cons.mp hg with rfl | hg
      · exact ⟨n3, np3⟩
      · rw [List.mem_singleton.mp hg]
        exact ⟨n4, np4⟩
    clear ll k1 k2 k3 k4 x1 x2 x3 x4 n1 n2 n3 n4 np1 np2 np3 np4 e11 e12 hw1 hdx1 hw2 hdx2 f10 f11 e5x
    -- what was handed over changes
    refine seq_i fun N hN => ?_
    refine for_listI (a := ph) (xs := [g1, g2, g3, g4].map V.ref) rfl (ofL f12) (fun i σ H' => (∃ v, σ = [some (V.ref p0), some (V.int m1), some (V.int m2), some (V.int m3), some (V.int m4), some (V.int al), some (V.ref pt1), some (V.ref pt2), some (V.ref ph), some (V.ref w1), some (V.ref w2), v, none, none]) ∧
        Ext H5 H' ∧ H' ph = some (.lst ([g1, g2, g3, g4].map V.ref)) ∧ WorldAt a.C_World H' w1 rs1 rs2 ∧ WorldAt a.C_World H' w2 rs3 rs4 ∧ Lists [g1, g2, g3, g4] H' (8 + i)) ⟨⟨_, rfl⟩, e5y, f12, W1, W2, LL⟩ (fun i σ H' _ h => ofL h.2.2.1) ?_ ?_
    · rintro i y σ H13 hy ⟨⟨v, rfl⟩, e, fp, V1, V2, LL⟩
      obtain ⟨g, hg, rfl⟩ := List.mem_map.mp (List.mem_of_getElem? hy)
      have hi4 : i < 4 := by
        have := (List.getElem?_eq_some_iff.mp hy).1
        exact this
      obtain ⟨hg5, hpg⟩ := hnew g hg
      clear hN
      refine seq_i fun N2 hN2 => ?_
      simp only [tSeq, tIfS, tOp, tVar, tC, tCB, tCons, tNil, rI0, rI, tTest, tRet, tRetN, tNext, tAsg, gName, gNil, gCons, gTup, gUnl, tLst, tTup, tCall, tMeth, tMake, tUn, rU, tAndV, tOrV, tNotV, tAnd, tOr, tNot, tIf, tB, tFld, tDrop, tPar, tNever, tBM, rAppend, tSl, tPart, tNoPart, tM1, tyLst, List.getElem?_cons_zero, List.getElem?_cons_succ, Option.some.injEq, exists_eq_left', exists_eq_left, V.int.injEq, V.bl.injEq, V.str.injEq, V.ref.injEq, List.set_cons_zero, List.set_cons_succ, exists_and_left, exists_and_right, and_assoc, List.cons.injEq, and_true, true_and, List.cons_append, List.nil_append, List.append_nil, List.length_cons, List.length_nil, exists_eq', exists_eq, exists_const, exists_eq_right, exists_eq_right', cxK, Cx.nox, Cx.wish]
      obtain ⟨xs, hx1, hx2, hx3⟩ := LL g hg
      have hz16 : sizeLine = 16777216 := rfl
      refine ⟨tyLst hx1, by decide, fun q1 hq1 => ?_⟩
      generalize E1 : upd H13 q1 _ = H14
      obtain ⟨e14, f14⟩ := alloc hq1 E1
      have y1 := e14 _ _ hx1
      refine ⟨_, y1, by omega, hN2 _ _ ?_⟩
      clear hN2 N2
      have fp := e14 _ _ fp
      have V1 := (V1.ext e14).upd (u := .lst (xs ++ [.ref q1])) y1
      have V2 := (V2.ext e14).upd (u := .lst (xs ++ [.ref q1])) y1
      have l1 : (xs ++ [V.ref q1]).length = xs.length + 1 := List.length_append
      have LL := ((LL.ext e14).mono (show 8 + i ≤ 8 + (i + 1) by omega)).upd (q := g) (ys := xs ++ [.ref q1]) (by omega) (by omega)
      have fp : upd H14 g (.lst (xs ++ [.ref q1])) ph = _ := (upd_ne hpg).trans fp
      have e := upd_ext (e.trans e14) hg5 (o := .lst (xs ++ [.ref q1]))
      have y1 : upd H14 g (.lst (xs ++ [.ref q1])) g = _ := upd_same
      generalize upd H14 g _ = H15 at fp V1 V2 LL e y1 ⊢
      generalize xs ++ [V.ref q1] = ys at l1 y1
      simp only [gSub, rSetL, tSeq, tIfS, tOp, tVar, tC, tCB, tCons, tNil, rI0, rI, tTest, tRet, tRetN, tNext, tAsg, gName, gNil, gCons, gTup, gUnl, tLst, tTup, tCall, tMeth, tMake, tUn, rU, tAndV, tOrV, tNotV, tAnd, tOr, tNot, tIf, tB, tFld, tDrop, tPar, tNever, tBM, rAppend, tSl, tPart, tNoPart, tM1, tyLst, List.getElem?_cons_zero, List.getElem?_cons_succ, Option.some.injEq, exists_eq_left', exists_eq_left, V.int.injEq, V.bl.injEq, V.str.injEq, V.ref.injEq, List.set_cons_zero, List.set_cons_succ, exists_and_left, exists_and_right, and_assoc, List.cons.injEq, and_true, true_and, List.cons_append, List.nil_append, List.append_nil, List.length_cons, List.length_nil, exists_eq', exists_eq, exists_const, exists_eq_right, exists_eq_right', cxK, Cx.nox, Cx.wish]
      refine ⟨by decide, fun q2 hq2 => ?_⟩
      generalize E2 : upd H15 q2 _ = H16
      obtain ⟨e16, f16⟩ := alloc hq2 E2
      have y1 := e16 _ _ y1
      refine ⟨_, y1, 0, ixN_0 (by omega), ?_⟩
      have l2 : (ys.set 0 (V.ref q2)).length = ys.length := List.length_set
      refine ⟨upd_ext (e.trans e16) hg5, (upd_ne hpg).trans (e16 _ _ fp), (V1.ext e16).upd y1, (V2.ext e16).upd y1, (LL.ext e16).upd (by omega) (by omega)⟩
    · rintro σ H13 ⟨⟨v, rfl⟩, e, _, V1, V2, _⟩
      refine hN _ _ ?_
      clear hN N LL hnew f12 W1 W2 e5y
      have x1 : RowsAt H13 p1 rs1 := ⟨ts1, e _ _ h1, hR1.ext e⟩
      have x2 : RowsAt H13 p2 rs2 := ⟨ts2, e _ _ h2, hR2.ext e⟩
      have x3 : RowsAt H13 p3 rs3 := ⟨ts3, e _ _ h3, hR3.ext e⟩
      have x4 : RowsAt H13 p4 rs4 := ⟨ts4, e _ _ h4, hR4.ext e⟩
      have T1 := e _ _ T1
      have T2 := e _ _ T2
      clear h1 h2 h3 h4 hR1 hR2 hR3 hR4 e
      refine seq_i fun N hN => ?_
      refine for_rangeI (n := 2) (fun R r => r) (by decide) (by decide) (fun i σ H' => (∃ v12 v13, σ = [some (V.ref p0), some (V.int m1), some (V.int m2), some (V.int m3), some (V.int m4), some (V.int al), some (V.ref pt1), some (V.ref pt2), some (V.ref ph), some (V.ref w1), some (V.ref w2), v, v12, v13]) ∧ Ext H13 H') ⟨⟨_, _, rfl⟩, Ext.refl' _⟩ ?_ ?_
      · rintro i σ H14 hi ⟨⟨v12, v13, rfl⟩, e⟩
        clear hN
        show tSeq _ _ _ [some (V.ref p0), some (V.int m1), some (V.int m2), some (V.int m3), some (V.int m4), some (V.int al), some (V.ref pt1), some (V.ref pt2), some (V.ref ph), some (V.ref w1), some (V.ref w2), v, some (V.int (0 + (i : Int))), v13] H14
        refine seq_i fun N hN => ?_
        simp only [tSeq, tIfS, tOp, tVar, tC, tCB, tCons, tNil, rI0, rI, tTest, tRet, tRetN, tNext, tAsg, gName, gNil, gCons, gTup, gUnl, tLst, tTup, tCall, tMeth, tMake, tUn, rU, tAndV, tOrV, tNotV, tAnd, tOr, tNot, tIf, tB, tFld, tDrop, tPar, tNever, tBM, rAppend, tSl, tPart, tNoPart, tM1, tyLst, List.getElem?_cons_zero, List.getElem?_cons_succ, Option.some.injEq, exists_eq_left', exists_eq_left, V.int.injEq, V.bl.injEq, V.str.injEq, V.ref.injEq, List.set_cons_zero, List.set_cons_succ, exists_and_left, exists_and_right, and_assoc, List.cons.injEq, and_true, true_and, List.cons_append, List.nil_append, List.append_nil, List.length_cons, List.length_nil, exists_eq', exists_eq, exists_const, exists_eq_right, exists_eq_right', cxK, Cx.nox, Cx.wish]
        have W1 := V1.ext e
        have W2 := V2.ext e
        have D1 : ∃ dx fs, H14 w1 = some (.ins a.C_World dx fs) ∧ fs.lookup ("coin_rows" : Str) = none ∧ fs.lookup ("house_rows" : Str) = none := by
          obtain ⟨dx, d, d2, h, _⟩ := W1
          exact ⟨_, _, h, fsW_no (by decide +kernel) (by decide +kernel), fsW_no (by decide +kernel) (by decide +kernel)⟩
        have D2 : ∃ dx fs, H14 w2 = some (.ins a.C_World dx fs) ∧ fs.lookup ("coin_rows" : Str) = none ∧ fs.lookup ("house_rows" : Str) = none := by
          obtain ⟨dx, d, d2, h, _⟩ := W2
          exact ⟨_, _, h, fsW_no (by decide +kernel) (by decide +kernel), fsW_no (by decide +kernel) (by decide +kernel)⟩
        obtain ⟨dxa, fsa, D1, D1c, D1h⟩ := D1
        obtain ⟨dxb, fsb, D2, D2c, D2h⟩ := D2
        refine ⟨_, _, D1, D1c, w1, rs1, rs2, rfl, W1, fun s1 H15 e15 n1 S1 => ?_⟩
        refine ⟨_, _, e15 _ _ D2, D2c, w2, rs3, rs4, rfl, W2.ext e15, fun s2 H16 e16 n2 S2 => ?_⟩
        refine ⟨_, _, e16 _ _ (e15 _ _ D1), D1h, w1, rs1, rs2, rfl, (W1.ext e15).ext e16, fun s3 H17 e17 n3 S3 => ?_⟩
        refine ⟨_, _, e17 _ _ (e16 _ _ (e15 _ _ D2)), D2h, w2, rs3, rs4, rfl, ((W2.ext e15).ext e16).ext e17, fun s4 H18 e18 n4 S4 => ?_⟩
        refine ⟨by decide, fun ps hps => ?_⟩
        generalize E1 : upd H18 ps _ = H19
        obtain ⟨e19, f19⟩ := alloc hps E1
        refine hN _ _ ?_
        clear hN N E1 W1 W2 D1 D1c D1h D2 D2c D2h
        have S1 : RowsAt H15 s1 rs1 := S1
        have S2 : RowsAt H16 s2 rs3 := S2
        have S3 : RowsAt H17 s3 rs2 := S3
        have S4 : RowsAt H18 s4 rs4 := S4
        have e1519 : Ext H15 H19 := e16.trans (e17.trans (e18.trans e19))
        have e1619 : Ext H16 H19 := e17.trans (e18.trans e19)
        have e1719 : Ext H17 H19 := e18.trans e19
        have e1419 : Ext H14 H19 := e15.trans e1519
        have q1 : H13 s1 = none := nn e n1
        have q2 : H13 s2 = none := nn (e.trans e15) n2
        have q3 : H13 s3 = none := nn (e.trans (e15.trans e16)) n3
        have q4 : H13 s4 = none := nn (e.trans (e15.trans (e16.trans e17))) n4
        have some1 := S1
        obtain ⟨_, c1, _⟩ := some1
        have some2 := S2
        obtain ⟨tt2, c2, _⟩ := some2
        have some3 := S3
        obtain ⟨tt3, c3, hR3⟩ := some3
        have hl3 : tt3.length ≤ 8 := by
          rw [hR3.len]
          exact L2.2
        have some4 := S4
        obtain ⟨tt4, c4, hR4⟩ := some4
        have ne12 : s1 ≠ s2 := ne_of_none c1 n2
        have ne13 : s1 ≠ s3 := ne_of_none (e16 _ _ c1) n3
        have ne23 : s2 ≠ s3 := ne_of_none c2 n3
        have ne14 : s1 ≠ s4 := ne_of_none (e17 _ _ (e16 _ _ c1)) n4
        have ne24 : s2 ≠ s4 := ne_of_none (e17 _ _ c2) n4
        have ne34 : s3 ≠ s4 := ne_of_none c3 n4
        have np1 : s1 ≠ ps := ne_of_none (e18 _ _ (e17 _ _ (e16 _ _ c1))) hps
        have np2 : s2 ≠ ps := ne_of_none (e18 _ _ (e17 _ _ c2)) hps
        have np3 : s3 ≠ ps := ne_of_none (e18 _ _ c3) hps
        have np4 : s4 ≠ ps := ne_of_none c4 hps
        have c1 := e1519 _ _ c1
        have c2 := e1619 _ _ c2
        have c3 := e1719 _ _ c3
        have c4 := e19 _ _ c4
        have hl4 : 1 ≤ tt4.length := by
          rw [hR4.len]
          exact L4.1
        -- the same
        refine seq_i fun N hN => ?_
        simp only [rIxT, tSeq, tIfS, tOp, tVar, tC, tCB, tCons, tNil, rI0, rI, tTest, tRet, tRetN, tNext, tAsg, gName, gNil, gCons, gTup, gUnl, tLst, tTup, tCall, tMeth, tMake, tUn, rU, tAndV, tOrV, tNotV, tAnd, tOr, tNot, tIf, tB, tFld, tDrop, tPar, tNever, tBM, rAppend, tSl, tPart, tNoPart, tM1, tyLst, List.getElem?_cons_zero, List.getElem?_cons_succ, Option.some.injEq, exists_eq_left', exists_eq_left, V.int.injEq, V.bl.injEq, V.str.injEq, V.ref.injEq, List.set_cons_zero, List.set_cons_succ, exists_and_left, exists_and_right, and_assoc, List.cons.injEq, and_true, true_and, List.cons_append, List.nil_append, List.append_nil, List.length_cons, List.length_nil, exists_eq', exists_eq, exists_const, exists_eq_right, exists_eq_right', cxK, Cx.nox, Cx.wish]
        have T1' := e1419 _ _ (e _ _ T1)
        have T2' := e1419 _ _ (e _ _ T2)
        refine ⟨_, ofT T1', _, atI_0, _, ofT T2', _, atI_0, _, ofT T1', _, atI_1, _, ofT T2', _, atI_1, by decide, fun pq hpq => ?_⟩
        generalize E2 : upd H19 pq _ = H20
        obtain ⟨e20, f20⟩ := alloc hpq E2
        have e1320 : Ext H13 H20 := e.trans (e1419.trans e20)
        refine ⟨_, _, .list [.list (rs1.map rowD), .list (rs3.map rowD), .list (rs2.map rowD), .list (rs4.map rowD)], rfl,
          .lst (ofL (e20 _ _ f19)) (.cons (S1.ext (e1519.trans e20)).dp (.cons (S2.ext (e1619.trans e20)).dp (.cons (S3.ext (e1719.trans e20)).dp (.cons (S4.ext (e19.trans e20)).dp .nil)))),
          .lst (ofL f20) (.cons (x1.ext e1320).dp (.cons (x3.ext e1320).dp (.cons (x2.ext e1320).dp (.cons (x4.ext e1320).dp .nil)))), ?_, ?_⟩
        · refine (Mild.list (n := 40000) (k := 2) (m := 4) (fun d hd => ?_) (Nat.le_refl _)).neat (by decide) (by decide)
          rcases List.mem_cons.mp hd with rfl | hd
          · exact ok1.mild (by decide) (by omega)
          rcases List.mem_cons.mp hd with rfl | hd
          · exact ok3.mild (by decide) (by omega)
          rcases List.mem_cons.mp hd with rfl | hd
          · exact ok2.mild (by decide) (by omega)
          · rw [List.mem_singleton.mp hd]
            exact ok4.mild (by decide) (by omega)
        refine ⟨true, rfl, iteF (hN _ _ ?_)⟩
        clear hN N E2
        have c1 := e20 _ _ c1
        have c2 := e20 _ _ c2
        have c3 := e20 _ _ c3
        have c4 := e20 _ _ c4
        have fp := e20 _ _ f19
        -- what was told changes
        simp only [rIxL, rClear, rReverse, rPop, tBM0, tSeq, tIfS, tOp, tVar, tC, tCB, tCons, tNil, rI0, rI, tTest, tRet, tRetN, tNext, tAsg, gName, gNil, gCons, gTup, gUnl, tLst, tTup, tCall, tMeth, tMake, tUn, rU, tAndV, tOrV, tNotV, tAnd, tOr, tNot, tIf, tB, tFld, tDrop, tPar, tNever, tBM, rAppend, tSl, tPart, tNoPart, tM1, tyLst, List.getElem?_cons_zero, List.getElem?_cons_succ, Option.some.injEq, exists_eq_left', exists_eq_left, V.int.injEq, V.bl.injEq, V.str.injEq, V.ref.injEq, List.set_cons_zero, List.set_cons_succ, exists_and_left, exists_and_right, and_assoc, List.cons.injEq, and_true, true_and, List.cons_append, List.nil_append, List.append_nil, List.length_cons, List.length_nil, exists_eq', exists_eq, exists_const, exists_eq_right, exists_eq_right', cxK, Cx.nox, Cx.wish]
        have hz16 : sizeLine = 16777216 := rfl
        have at1 : atI [V.ref s1, V.ref s2, V.ref s3, V.ref s4] 1 = some (.ref s2) := rfl
        have at2 : atI [V.ref s1, V.ref s2, V.ref s3, V.ref s4] 2 = some (.ref s3) := rfl
        have at3 : atI [V.ref s1, V.ref s2, V.ref s3, V.ref s4] 3 = some (.ref s4) := rfl
        refine ⟨_, ofL fp, _, atI_0, tyLst c1, s1, rfl, ⟨_, c1⟩, ?_⟩
        have fp := (upd_ne (o := .lst []) (Ne.symm np1)).trans fp
        have c2 := (upd_ne (o := .lst []) (Ne.symm ne12)).trans c2
        have c3 := (upd_ne (o := .lst []) (Ne.symm ne13)).trans c3
        have c4 := (upd_ne (o := .lst []) (Ne.symm ne14)).trans c4
        have e21 := upd_ext (o := .lst []) e1320 q1
        generalize upd H20 s1 _ = H21 at fp c2 c3 c4 e21 ⊢
        refine ⟨_, ofL fp, _, at2, tyLst c3, by decide, fun qq hqq => ?_⟩
        generalize E3 : upd H21 qq _ = H22
        obtain ⟨e22, f22⟩ := alloc hqq E3
        refine ⟨s3, rfl, _, e22 _ _ c3, by rw [List.length_map]; omega, ?_⟩
        have fp := (upd_ne (o := .lst (tt3.map V.ref ++ [V.ref qq])) (Ne.symm np3)).trans (e22 _ _ fp)
        have c2 := (upd_ne (o := .lst (tt3.map V.ref ++ [V.ref qq])) ne23).trans (e22 _ _ c2)
        have c4 := (upd_ne (o := .lst (tt3.map V.ref ++ [V.ref qq])) (Ne.symm ne34)).trans (e22 _ _ c4)
        have e23 := upd_ext (o := .lst (tt3.map V.ref ++ [V.ref qq])) (e21.trans e22) q3
        generalize upd H22 s3 _ = H23 at fp c2 c4 e23 ⊢
        refine ⟨_, ofL fp, _, at1, tyLst c2, s2, rfl, _, c2, ?_⟩
        have fp := (upd_ne (o := .lst (tt2.map V.ref).reverse) (Ne.symm np2)).trans fp
        have c4 := (upd_ne (o := .lst (tt2.map V.ref).reverse) (Ne.symm ne24)).trans c4
        have e24 := upd_ext (o := .lst (tt2.map V.ref).reverse) e23 q2
        generalize upd H23 s2 _ = H24 at fp c4 e24 ⊢
        exact ⟨_, ofL fp, _, at3, tyLst c4, s4, rfl, _, c4, ⟨_, List.getElem?_eq_getElem (by rw [List.length_map]; omega)⟩, upd_ext e24 q4⟩
      · rintro σ H14 ⟨⟨v12, v13, rfl⟩, e⟩
        refine hN _ _ ?_
        simp only [tSeq, tIfS, tOp, tVar, tC, tCB, tCons, tNil, rI0, rI, tTest, tRet, tRetN, tNext, tAsg, gName, gNil, gCons, gTup, gUnl, tLst, tTup, tCall, tMeth, tMake, tUn, rU, tAndV, tOrV, tNotV, tAnd, tOr, tNot, tIf, tB, tFld, tDrop, tPar, tNever, tBM, rAppend, tSl, tPart, tNoPart, tM1, tyLst, List.getElem?_cons_zero, List.getElem?_cons_succ, Option.some.injEq, exists_eq_left', exists_eq_left, V.int.injEq, V.bl.injEq, V.str.injEq, V.ref.injEq, List.set_cons_zero, List.set_cons_succ, exists_and_left, exists_and_right, and_assoc, List.cons.injEq, and_true, true_and, List.cons_append, List.nil_append, List.append_nil, List.length_cons, List.length_nil, exists_eq', exists_eq, exists_const, exists_eq_right, exists_eq_right', cxK, Cx.nox, Cx.wish]
        exact q _
end
theorem all_mk {P : Program} {w : World} {K : PySem.W.Frag} {h : Heap} {mg : Str → Option Value} {fa C_World f_World_init f_World_coin_rows f_World_house_rows f_need_number f_need_name f_numbers_by_name f_l_cell f_l_digits f_l_names f_l_world f_l_same f_law B_BOUNDS BT_BOUNDS_rate BT_BOUNDS_shares : Addr} (X : K.In h) (G : h.Ns mainGlobals mg) (hfa : mg "law" = some (.ref fa))
    {od_World_init an_World_init od_World_coin_rows an_World_coin_rows od_World_house_rows an_World_house_rows od_need_number an_need_number od_need_name an_need_name od_numbers_by_name an_numbers_by_name od_l_cell an_l_cell od_l_digits an_l_digits od_l_names an_l_names od_l_world an_l_world od_l_same an_l_same od_law an_law : Option Addr}
    {sl_World_init sl_World_coin_rows sl_World_house_rows sl_need_number sl_need_name sl_numbers_by_name sl_l_cell sl_l_digits sl_l_names sl_l_world sl_l_same sl_law : Array (Option Value)}
    {oc_World_init kV_World_init dc_World_init pm_World_init cd_World_init ct_World_init oc_World_coin_rows kV_World_coin_rows dc_World_coin_rows pm_World_coin_rows cd_World_coin_rows ct_World_coin_rows oc_World_house_rows kV_World_house_rows dc_World_house_rows pm_World_house_rows cd_World_house_rows ct_World_house_rows oc_need_number kV_need_number dc_need_number pm_need_number cd_need_number ct_need_number oc_need_name kV_need_name dc_need_name pm_need_name cd_need_name ct_need_name oc_numbers_by_name kV_numbers_by_name dc_numbers_by_name pm_numbers_by_name cd_numbers_by_name ct_numbers_by_name oc_l_cell kV_l_cell dc_l_cell pm_l_cell cd_l_cell ct_l_cell oc_l_digits kV_l_digits dc_l_digits pm_l_digits cd_l_digits ct_l_digits oc_l_names kV_l_names dc_l_names pm_l_names cd_l_names ct_l_names oc_l_world kV_l_world dc_l_world pm_l_world cd_l_world ct_l_world oc_l_same kV_l_same dc_l_same pm_l_same cd_l_same ct_l_same oc_law kV_law dc_law pm_law cd_law ct_law : Value}
    {tk_MOST_COINS : Tok}
    {tk_MOST_HOUSES : Tok}
    {tk_MOST_LETTERS : Tok}
    {tk_LETTERS : Tok}
    {bes_BOUNDS : Array DictEntry} {bn_BOUNDS : Nat}
    {btd_BOUNDS_rate : Option Addr} {bti_BOUNDS_rate : Array Value} {btn_BOUNDS_rate : Nat} {bts_BOUNDS_rate : Array (Option Value)}
    {btd_BOUNDS_shares : Option Addr} {bti_BOUNDS_shares : Array Value} {btn_BOUNDS_shares : Nat} {bts_BOUNDS_shares : Array (Option Value)}
    (g_need_number : PySem.W.nsIn K mainGlobals "_need_number" = some (some (.ref f_need_number)))
    (g_need_name : PySem.W.nsIn K mainGlobals "_need_name" = some (some (.ref f_need_name)))
    (g_numbers_by_name : PySem.W.nsIn K mainGlobals "_numbers_by_name" = some (some (.ref f_numbers_by_name)))
    (g_l_cell : PySem.W.nsIn K mainGlobals "_law_cell" = some (some (.ref f_l_cell)))
    (g_l_digits : PySem.W.nsIn K mainGlobals "_law_digits" = some (some (.ref f_l_digits)))
    (g_l_names : PySem.W.nsIn K mainGlobals "_law_names" = some (some (.ref f_l_names)))
    (g_l_world : PySem.W.nsIn K mainGlobals "_law_world" = some (some (.ref f_l_world)))
    (g_l_same : PySem.W.nsIn K mainGlobals "_law_same" = some (some (.ref f_l_same)))
    (g_law : PySem.W.nsIn K mainGlobals "law" = some (some (.ref f_law)))
    (g_World : PySem.W.nsIn K mainGlobals "World" = some (some (.ref C_World)))
    (in_World : PySem.W.findIn K (.ref C_World) "__init__" = some (some (.ref f_World_init)))
    (ma_World_coin_rows : PySem.W.findIn K (.ref C_World) "coin_rows" = some (some (.ref f_World_coin_rows)))
    (ma_World_house_rows : PySem.W.findIn K (.ref C_World) "house_rows" = some (some (.ref f_World_house_rows)))
    (g_BOUNDS : PySem.W.nsIn K mainGlobals "BOUNDS" = some (some (.ref B_BOUNDS)))
    (l_World_init : K.lookup f_World_init = some ⟨oc_World_init, od_World_init, .func (PySem.W.fnOf "__init__" "World.__init__" (defArgs s_World_init) (defBody s_World_init) (defScope s_World_init) .none kV_World_init dc_World_init pm_World_init an_World_init cd_World_init ct_World_init), sl_World_init⟩)
    (c_World_init : PySem.W.codeIn K cd_World_init "World.__init__" = true)
    (k_World_init : PySem.W.keepIn K (.ref f_World_init) = true)
    (l_World_coin_rows : K.lookup f_World_coin_rows = some ⟨oc_World_coin_rows, od_World_coin_rows, .func (PySem.W.fnOf "coin_rows" "World.coin_rows" (defArgs s_World_coin_rows) (defBody s_World_coin_rows) (defScope s_World_coin_rows) .none kV_World_coin_rows dc_World_coin_rows pm_World_coin_rows an_World_coin_rows cd_World_coin_rows ct_World_coin_rows), sl_World_coin_rows⟩)
    (c_World_coin_rows : PySem.W.codeIn K cd_World_coin_rows "World.coin_rows" = true)
    (k_World_coin_rows : PySem.W.keepIn K (.ref f_World_coin_rows) = true)
    (l_World_house_rows : K.lookup f_World_house_rows = some ⟨oc_World_house_rows, od_World_house_rows, .func (PySem.W.fnOf "house_rows" "World.house_rows" (defArgs s_World_house_rows) (defBody s_World_house_rows) (defScope s_World_house_rows) .none kV_World_house_rows dc_World_house_rows pm_World_house_rows an_World_house_rows cd_World_house_rows ct_World_house_rows), sl_World_house_rows⟩)
    (c_World_house_rows : PySem.W.codeIn K cd_World_house_rows "World.house_rows" = true)
    (k_World_house_rows : PySem.W.keepIn K (.ref f_World_house_rows) = true)
    (l_need_number : K.lookup f_need_number = some ⟨oc_need_number, od_need_number, .func (PySem.W.fnOf "_need_number" "_need_number" (defArgs s_need_number) (defBody s_need_number) (defScope s_need_number) .none kV_need_number dc_need_number pm_need_number an_need_number cd_need_number ct_need_number), sl_need_number⟩)
    (c_need_number : PySem.W.codeIn K cd_need_number "_need_number" = true)
    (k_need_number : PySem.W.keepIn K (.ref f_need_number) = true)
    (l_need_name : K.lookup f_need_name = some ⟨oc_need_name, od_need_name, .func (PySem.W.fnOf "_need_name" "_need_name" (defArgs s_need_name) (defBody s_need_name) (defScope s_need_name) .none kV_need_name dc_need_name pm_need_name an_need_name cd_need_name ct_need_name), sl_need_name⟩)
    (c_need_name : PySem.W.codeIn K cd_need_name "_need_name" = true)
    (k_need_name : PySem.W.keepIn K (.ref f_need_name) = true)
    (l_numbers_by_name : K.lookup f_numbers_by_name = some ⟨oc_numbers_by_name, od_numbers_by_name, .func (PySem.W.fnOf "_numbers_by_name" "_numbers_by_name" (defArgs s_numbers_by_name) (defBody s_numbers_by_name) (defScope s_numbers_by_name) .none kV_numbers_by_name dc_numbers_by_name pm_numbers_by_name an_numbers_by_name cd_numbers_by_name ct_numbers_by_name), sl_numbers_by_name⟩)
    (c_numbers_by_name : PySem.W.codeIn K cd_numbers_by_name "_numbers_by_name" = true)
    (k_numbers_by_name : PySem.W.keepIn K (.ref f_numbers_by_name) = true)
    (l_l_cell : K.lookup f_l_cell = some ⟨oc_l_cell, od_l_cell, .func (PySem.W.fnOf "_law_cell" "_law_cell" (defArgs s_l_cell) (defBody s_l_cell) (defScope s_l_cell) .none kV_l_cell dc_l_cell pm_l_cell an_l_cell cd_l_cell ct_l_cell), sl_l_cell⟩)
    (c_l_cell : PySem.W.codeIn K cd_l_cell "_law_cell" = true)
    (k_l_cell : PySem.W.keepIn K (.ref f_l_cell) = true)
    (l_l_digits : K.lookup f_l_digits = some ⟨oc_l_digits, od_l_digits, .func (PySem.W.fnOf "_law_digits" "_law_digits" (defArgs s_l_digits) (defBody s_l_digits) (defScope s_l_digits) .none kV_l_digits dc_l_digits pm_l_digits an_l_digits cd_l_digits ct_l_digits), sl_l_digits⟩)
    (c_l_digits : PySem.W.codeIn K cd_l_digits "_law_digits" = true)
    (k_l_digits : PySem.W.keepIn K (.ref f_l_digits) = true)
    (l_l_names : K.lookup f_l_names = some ⟨oc_l_names, od_l_names, .func (PySem.W.fnOf "_law_names" "_law_names" (defArgs s_l_names) (defBody s_l_names) (defScope s_l_names) .none kV_l_names dc_l_names pm_l_names an_l_names cd_l_names ct_l_names), sl_l_names⟩)
    (c_l_names : PySem.W.codeIn K cd_l_names "_law_names" = true)
    (k_l_names : PySem.W.keepIn K (.ref f_l_names) = true)
    (l_l_world : K.lookup f_l_world = some ⟨oc_l_world, od_l_world, .func (PySem.W.fnOf "_law_world" "_law_world" (defArgs s_l_world) (defBody s_l_world) (defScope s_l_world) .none kV_l_world dc_l_world pm_l_world an_l_world cd_l_world ct_l_world), sl_l_world⟩)
    (c_l_world : PySem.W.codeIn K cd_l_world "_law_world" = true)
    (k_l_world : PySem.W.keepIn K (.ref f_l_world) = true)
    (l_l_same : K.lookup f_l_same = some ⟨oc_l_same, od_l_same, .func (PySem.W.fnOf "_law_same" "_law_same" (defArgs s_l_same) (defBody s_l_same) (defScope s_l_same) .none kV_l_same dc_l_same pm_l_same an_l_same cd_l_same ct_l_same), sl_l_same⟩)
    (c_l_same : PySem.W.codeIn K cd_l_same "_law_same" = true)
    (k_l_same : PySem.W.keepIn K (.ref f_l_same) = true)
    (l_law : K.lookup f_law = some ⟨oc_law, od_law, .func (PySem.W.fnOf "law" "law" (defArgs s_law) (defBody s_law) (defScope s_law) .none kV_law dc_law pm_law an_law cd_law ct_law), sl_law⟩)
    (c_law : PySem.W.codeIn K cd_law "law" = true)
    (k_law : PySem.W.keepIn K (.ref f_law) = true)
    (h_kp_World : PySem.W.keepIn K (.ref C_World) = true)
    (pg_World : PySem.W.plainGet K C_World Str.empty = true)
    (hd_World : PySem.W.hasDictIn K C_World = true)
    (po_World : PySem.W.plainOver K C_World = true)
    (sa_World : PySem.W.findIn K (.ref C_World) "__setattr__" = some (some (.builtin "object.__setattr__")))
    (mk_World : PySem.W.makesIn K C_World = true)
    (if_World : PySem.W.isFn K (.ref f_World_init) = true)
    (mf_World_coin_rows : PySem.W.isFn K (.ref f_World_coin_rows) = true)
    (mf_World_house_rows : PySem.W.isFn K (.ref f_World_house_rows) = true)
    (h_na_World__rates : PySem.W.findIn K (.ref C_World) "_rates" = some none)
    (h_na_World__shares : PySem.W.findIn K (.ref C_World) "_shares" = some none)
    (b_MOST_COINS : PySem.W.nsIn K mainGlobals "MOST_COINS" = some (some (.int 5 tk_MOST_COINS)))
    (b_MOST_HOUSES : PySem.W.nsIn K mainGlobals "MOST_HOUSES" = some (some (.int 8 tk_MOST_HOUSES)))
    (b_MOST_LETTERS : PySem.W.nsIn K mainGlobals "MOST_LETTERS" = some (some (.int 6 tk_MOST_LETTERS)))
    (b_LETTERS : PySem.W.nsIn K mainGlobals "LETTERS" = some (some (.str "abcdefghijklmnopqrstuvwxyz" tk_LETTERS)))
    (lB_BOUNDS : K.lookup B_BOUNDS = some ⟨.type "dict", none, .dict bes_BOUNDS bn_BOUNDS, #[]⟩)
    (kB_BOUNDS : PySem.W.KeysLit w.params bes_BOUNDS.toList)
    (eB_BOUNDS_rate : PySem.W.nsIn K B_BOUNDS "rate" = some (some (.ref BT_BOUNDS_rate)))
    (tB_BOUNDS_rate : K.lookup BT_BOUNDS_rate = some ⟨.type "tuple", btd_BOUNDS_rate, .seq bti_BOUNDS_rate btn_BOUNDS_rate, bts_BOUNDS_rate⟩)
    (vB_BOUNDS_rate : Vals [V.int 1, V.int 1000000000] bti_BOUNDS_rate.toList)
    (zB_BOUNDS_rate : bti_BOUNDS_rate.size ≤ sizeLine)
    (eB_BOUNDS_shares : PySem.W.nsIn K B_BOUNDS "shares" = some (some (.ref BT_BOUNDS_shares)))
    (tB_BOUNDS_shares : K.lookup BT_BOUNDS_shares = some ⟨.type "tuple", btd_BOUNDS_shares, .seq bti_BOUNDS_shares btn_BOUNDS_shares, bts_BOUNDS_shares⟩)
    (vB_BOUNDS_shares : Vals [V.int 1, V.int 1000000] bti_BOUNDS_shares.toList)
    (zB_BOUNDS_shares : bti_BOUNDS_shares.size ≤ sizeLine)
    (z_len : PySem.W.nsIn K mainGlobals "len" = some none)
    (z_range : PySem.W.nsIn K mainGlobals "range" = some none)
    (z_isinstance : PySem.W.nsIn K mainGlobals "isinstance" = some none)
    (z_repr : PySem.W.nsIn K mainGlobals "repr" = some none)
    (z_dict : PySem.W.nsIn K mainGlobals "dict" = some none)
    (z_list : PySem.W.nsIn K mainGlobals "list" = some none)
    (z_sorted : PySem.W.nsIn K mainGlobals "sorted" = some none)
    : ∃ fd : FuncData, (∀ (s : Shared) (v : Value), BindsTo s fd ⟨[v], []⟩ [("_law_script", v)]) ∧ ∀ base : Heap, K.In base → base.Ns mainGlobals mg → FnG P w K mg base CX0 5 fa fd ["_law_script"] (spLaw K) := by
  have e := (PySem.W.mg_of X G g_law).symm.trans hfa
  cases e
  have T : Tx ⟨C_World, f_World_init, (PySem.W.fnOf "__init__" "World.__init__" (defArgs s_World_init) (defBody s_World_init) (defScope s_World_init) .none kV_World_init dc_World_init pm_World_init an_World_init cd_World_init ct_World_init), f_World_coin_rows, (PySem.W.fnOf "coin_rows" "World.coin_rows" (defArgs s_World_coin_rows) (defBody s_World_coin_rows) (defScope s_World_coin_rows) .none kV_World_coin_rows dc_World_coin_rows pm_World_coin_rows an_World_coin_rows cd_World_coin_rows ct_World_coin_rows), f_World_house_rows, (PySem.W.fnOf "house_rows" "World.house_rows" (defArgs s_World_house_rows) (defBody s_World_house_rows) (defScope s_World_house_rows) .none kV_World_house_rows dc_World_house_rows pm_World_house_rows an_World_house_rows cd_World_house_rows ct_World_house_rows), f_need_number, (PySem.W.fnOf "_need_number" "_need_number" (defArgs s_need_number) (defBody s_need_number) (defScope s_need_number) .none kV_need_number dc_need_number pm_need_number an_need_number cd_need_number ct_need_number), f_need_name, (PySem.W.fnOf "_need_name" "_need_name" (defArgs s_need_name) (defBody s_need_name) (defScope s_need_name) .none kV_need_name dc_need_name pm_need_name an_need_name cd_need_name ct_need_name), f_numbers_by_name, (PySem.W.fnOf "_numbers_by_name" "_numbers_by_name" (defArgs s_numbers_by_name) (defBody s_numbers_by_name) (defScope s_numbers_by_name) .none kV_numbers_by_name dc_numbers_by_name pm_numbers_by_name an_numbers_by_name cd_numbers_by_name ct_numbers_by_name), f_l_cell, (PySem.W.fnOf "_law_cell" "_law_cell" (defArgs s_l_cell) (defBody s_l_cell) (defScope s_l_cell) .none kV_l_cell dc_l_cell pm_l_cell an_l_cell cd_l_cell ct_l_cell), f_l_digits, (PySem.W.fnOf "_law_digits" "_law_digits" (defArgs s_l_digits) (defBody s_l_digits) (defScope s_l_digits) .none kV_l_digits dc_l_digits pm_l_digits an_l_digits cd_l_digits ct_l_digits), f_l_names, (PySem.W.fnOf "_law_names" "_law_names" (defArgs s_l_names) (defBody s_l_names) (defScope s_l_names) .none kV_l_names dc_l_names pm_l_names an_l_names cd_l_names ct_l_names), f_l_world, (PySem.W.fnOf "_law_world" "_law_world" (defArgs s_l_world) (defBody s_l_world) (defScope s_l_world) .none kV_l_world dc_l_world pm_l_world an_l_world cd_l_world ct_l_world), f_l_same, (PySem.W.fnOf "_law_same" "_law_same" (defArgs s_l_same) (defBody s_l_same) (defScope s_l_same) .none kV_l_same dc_l_same pm_l_same an_l_same cd_l_same ct_l_same), fa, (PySem.W.fnOf "law" "law" (defArgs s_law) (defBody s_law) (defScope s_law) .none kV_law dc_law pm_law an_law cd_law ct_law), B_BOUNDS, BT_BOUNDS_rate, BT_BOUNDS_shares⟩ K mg w := ⟨fun_mk (st := s_World_init) l_World_init c_World_init k_World_init, fun_mk (st := s_World_coin_rows) l_World_coin_rows c_World_coin_rows k_World_coin_rows, fun_mk (st := s_World_house_rows) l_World_house_rows c_World_house_rows k_World_house_rows, fun_mk (st := s_need_number) l_need_number c_need_number k_need_number, PySem.W.mg_of X G g_need_number, fun_mk (st := s_need_name) l_need_name c_need_name k_need_name, PySem.W.mg_of X G g_need_name, fun_mk (st := s_numbers_by_name) l_numbers_by_name c_numbers_by_name k_numbers_by_name, PySem.W.mg_of X G g_numbers_by_name, fun_mk (st := s_l_cell) l_l_cell c_l_cell k_l_cell, PySem.W.mg_of X G g_l_cell, fun_mk (st := s_l_digits) l_l_digits c_l_digits k_l_digits, PySem.W.mg_of X G g_l_digits, fun_mk (st := s_l_names) l_l_names c_l_names k_l_names, PySem.W.mg_of X G g_l_names, fun_mk (st := s_l_world) l_l_world c_l_world k_l_world, PySem.W.mg_of X G g_l_world, fun_mk (st := s_l_same) l_l_same c_l_same k_l_same, PySem.W.mg_of X G g_l_same, fun_mk (st := s_law) l_law c_law k_law, PySem.W.mg_of X G g_law, PySem.W.mg_of X G g_World, h_kp_World, ⟨pg_World, hd_World, po_World, sa_World⟩, ⟨mk_World, in_World, if_World, h_kp_World⟩, ⟨ma_World_coin_rows, mf_World_coin_rows, k_World_coin_rows⟩, ⟨ma_World_house_rows, mf_World_house_rows, k_World_house_rows⟩, h_na_World__rates, h_na_World__shares, ⟨_, PySem.W.mg_of X G b_MOST_COINS⟩, ⟨_, PySem.W.mg_of X G b_MOST_HOUSES⟩, ⟨_, PySem.W.mg_of X G b_MOST_LETTERS⟩, ⟨_, PySem.W.mg_of X G b_LETTERS⟩, PySem.W.mg_of X G g_BOUNDS, ⟨bes_BOUNDS, bn_BOUNDS, _, lB_BOUNDS, kB_BOUNDS, eB_BOUNDS_rate, rfl⟩, ⟨_, _, _, tB_BOUNDS_rate, rfl, rfl, zB_BOUNDS_rate, vB_BOUNDS_rate⟩, ⟨bes_BOUNDS, bn_BOUNDS, _, lB_BOUNDS, kB_BOUNDS, eB_BOUNDS_shares, rfl⟩, ⟨_, _, _, tB_BOUNDS_shares, rfl, rfl, zB_BOUNDS_shares, vB_BOUNDS_shares⟩, PySem.W.mg_none_of X G z_len, PySem.W.mg_none_of X G z_range, PySem.W.mg_none_of X G z_isinstance, PySem.W.mg_none_of X G z_repr, PySem.W.mg_none_of X G z_dict, PySem.W.mg_none_of X G z_list, PySem.W.mg_none_of X G z_sorted⟩
  exact ⟨_, fun s v => .of_eq rfl, fun base _ _ => ok_law T⟩
theorem walk {l : PySem.W.OpenLaw} {q : Program} {loose : List Str} {XP : (Str → Option Value) → Heap → Prop} {YP : World → Heap → Prop} {d : DefRec} {K : Params → PySem.W.Frag} (hn : l.most = some 63) (hdf : d.params.defaults = [])
    (hY : ∀ (w : World) (h : Heap), YP w h → (K w.params).In h)
    (F : ∀ (w : World) (mg : Str → Option Value) (fa : Addr) (h : Heap), (K w.params).In h → h.Ns mainGlobals mg → mg d.name = some (.ref fa) →
      ∃ fd : FuncData, (∀ (s : Shared) (u : Value), BindsTo s fd ⟨[u], []⟩ [("_law_script", u)]) ∧ ∀ base : Heap, (K w.params).In base → base.Ns mainGlobals mg → FnG l.prog w (K w.params) mg base CX0 5 fa fd ["_law_script"] (spLaw (K w.params))) :
    PySem.W.WalkO q loose XP YP l.row.toRowW d [] (fun f vs => PySem.call f vs) :=
  Own.walk_ofG (n := 63) (k := 5) (x := "_law_script") (CX := fun _ => CX0) (sp := fun w => spLaw (K w.params)) hn (by decide) hdf ⟨rfl, by decide, by decide⟩ hY F (fun _ _ a ns hl _ hS => ⟨a, ns, rfl, hS, hl, fun _ => rfl⟩) fun _ _ _ _ _ z => z
end My
open PySem PySem.W PyProof.Rows
set_option maxRecDepth 100000 in
set_option maxHeartbeats 0 in
theorem PySem.Challenge.cw_oneroof_k07_worlds_told_holds : PySem.Challenge.rw_oneroof_k07_worlds_told.Holds := by
  w_on; o_law; k_head; (case hw => w_witness2)
  k_fill
  refine My.walk (l := PySem.Challenge.rw_oneroof_k07_worlds_told) rfl rfl (fun w h Y => PySem.W.kIn_of Y) ?F
  case F =>
    intro w mg fa h KX G hmg
    refine' My.all_mk KX G hmg ?g_need_number ?g_need_name ?g_numbers_by_name ?g_l_cell ?g_l_digits ?g_l_names ?g_l_world ?g_l_same ?g_law ?g_World ?in_World ?ma_World_coin_rows ?ma_World_house_rows ?g_BOUNDS ?l_World_init ?c_World_init ?k_World_init ?l_World_coin_rows ?c_World_coin_rows ?k_World_coin_rows ?l_World_house_rows ?c_World_house_rows ?k_World_house_rows ?l_need_number ?c_need_number ?k_need_number ?l_need_name ?c_need_name ?k_need_name ?l_numbers_by_name ?c_numbers_by_name ?k_numbers_by_name ?l_l_cell ?c_l_cell ?k_l_cell ?l_l_digits ?c_l_digits ?k_l_digits ?l_l_names ?c_l_names ?k_l_names ?l_l_world ?c_l_world ?k_l_world ?l_l_same ?c_l_same ?k_l_same ?l_law ?c_law ?k_law ?h_kp_World ?pg_World ?hd_World ?po_World ?sa_World ?mk_World ?if_World ?mf_World_coin_rows ?mf_World_house_rows ?h_na_World__rates ?h_na_World__shares ?b_MOST_COINS ?b_MOST_HOUSES ?b_MOST_LETTERS ?b_LETTERS ?lB_BOUNDS ?kB_BOUNDS ?eB_BOUNDS_rate ?tB_BOUNDS_rate ?vB_BOUNDS_rate ?zB_BOUNDS_rate ?eB_BOUNDS_shares ?tB_BOUNDS_shares ?vB_BOUNDS_shares ?zB_BOUNDS_shares ?z_len ?z_range ?z_isinstance ?z_repr ?z_dict ?z_list ?z_sorted
    case g_need_number => k_is
    case g_need_name => k_is
    case g_numbers_by_name => k_is
    case g_l_cell => k_is
    case g_l_digits => k_is
    case g_l_names => k_is
    case g_l_world => k_is
    case g_l_same => k_is
    case g_law => k_is
    case g_World => k_is
    case in_World => k_is
    case ma_World_coin_rows => k_is
    case ma_World_house_rows => k_is
    case g_BOUNDS => k_is
    case l_World_init => k_is
    case c_World_init => k_is
    case k_World_init => k_is
    case l_World_coin_rows => k_is
    case c_World_coin_rows => k_is
    case k_World_coin_rows => k_is
    case l_World_house_rows => k_is
    case c_World_house_rows => k_is
    case k_World_house_rows => k_is
    case l_need_number => k_is
    case c_need_number => k_is
    case k_need_number => k_is
    case l_need_name => k_is
    case c_need_name => k_is
    case k_need_name => k_is
    case l_numbers_by_name => k_is
    case c_numbers_by_name => k_is
    case k_numbers_by_name => k_is
    case l_l_cell => k_is
    case c_l_cell => k_is
    case k_l_cell => k_is
    case l_l_digits => k_is
    case c_l_digits => k_is
    case k_l_digits => k_is
    case l_l_names => k_is
    case c_l_names => k_is
    case k_l_names => k_is
    case l_l_world => k_is
    case c_l_world => k_is
    case k_l_world => k_is
    case l_l_same => k_is
    case c_l_same => k_is
    case k_l_same => k_is
    case l_law => k_is
    case c_law => k_is
    case k_law => k_is
    case h_kp_World => k_is
    case pg_World => k_is
    case hd_World => k_is
    case po_World => k_is
    case sa_World => k_is
    case mk_World => k_is
    case if_World => k_is
    case mf_World_coin_rows => k_is
    case mf_World_house_rows => k_is
    case h_na_World__rates => k_is
    case h_na_World__shares => k_is
    case b_MOST_COINS => k_is
    case b_MOST_HOUSES => k_is
    case b_MOST_LETTERS => k_is
    case b_LETTERS => k_is
    case lB_BOUNDS => k_is
    case kB_BOUNDS => exact ⟨⟨_, _, rfl, rfl⟩, ⟨⟨_, _, rfl, rfl⟩, ⟨⟨_, _, rfl, rfl⟩, ⟨⟨_, _, rfl, rfl⟩, ⟨⟨_, _, rfl, rfl⟩, ⟨⟨_, _, rfl, rfl⟩, ⟨⟨_, _, rfl, rfl⟩, ⟨⟨_, _, rfl, rfl⟩, trivial⟩⟩⟩⟩⟩⟩⟩⟩
    case eB_BOUNDS_rate => k_is
    case tB_BOUNDS_rate => k_is
    case vB_BOUNDS_rate => exact (.cons ⟨_, rfl⟩ (.cons ⟨_, rfl⟩ .nil))
    case zB_BOUNDS_rate => exact Nat.le_of_ble_eq_true rfl
    case eB_BOUNDS_shares => k_is
    case tB_BOUNDS_shares => k_is
    case vB_BOUNDS_shares => exact (.cons ⟨_, rfl⟩ (.cons ⟨_, rfl⟩ .nil))
    case zB_BOUNDS_shares => exact Nat.le_of_ble_eq_true rfl
    case z_len => k_is
    case z_range => k_is
    case z_isinstance => k_is
    case z_repr => k_is
    case z_dict => k_is
    case z_list => k_is
    case z_sorted => k_is

