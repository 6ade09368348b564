import PyProof.Rows.All
import Wide.All
import OpenK.AllK
import Wide.FinOn
import HandS.ForMost
import HandS.Exc
import HandS.OwnEq
import HandS.Gcd
import HandS.RaiseMore
import HandS.IsInst
import HandS.NoneIn
import HandS.FStr
import HandS.Wide
import HandS.Defaults
import HandS.DictComp
import HandS.ListItems
import OpenK.KOps
import PyProof.Rows.RegStrFacts
import PyProof.Rows.ReprOcc
import HandS.Walk
import HandS.Steps
import HandS.Dict
import HandS.WordsDict
import PySem.Challenge.RW_oneroof_k13_inner_links
set_option Elab.async false
set_option maxRecDepth 100000
set_option maxHeartbeats 4000000
set_option linter.all false
namespace Own
open PySem PySem.Spec PyProof.Rows L2
section
variable {X : Cx}

/-- what a callee's run gives, told at any room below X -/
theorem run_sub {CX : CXT} {k : Nat} {f : Addr} {fd : FuncData} {ps : List Str} {sp : Sp} {E : XK} {A : Around} {pins : List (Addr × Obj)} {σ : L2.St} {H : Hp} {s : Shared} {R : Value → Shared → Prop} {us : List Value} {vs : List V} {Q : VK}
    (F : FnOk X.prog X.w X.K X.mg X.base CX k f fd ps sp) (sb : Sub X k A) (hb : Binds X.K fd ps []) (hx : Passes CX X E) (I : Inv X pins σ H s) (r : Vals vs us) (h : sp vs H Q E)
    (hR : ∀ v u H' s', Inv X pins σ H' s' → RelV v u → Q v H' → R u s') : wpAny (model X.prog X.w) A (call (.ref f) us) R X.xe s := by
  have e := I.env0
  have e0 : Env0 X.prog X.w X.K X.mg X.base A X.stack s H := ⟨sb.fr.trans e.frames, e.mod, e.bs, e.bsz, e.funs, e.frf, e.hok, e.bare⟩
  have hl : (us ++ []).length = ps.length := by rw [List.append_nil, ← r.length]; exact F.len _ _ _ _ h
  have hb2 := hb s us I.kIn hl
  rw [List.append_nil] at hb2
  refine wpAny_call (codeAny_mono (F.run A X.stack s H ⟨us, []⟩ us vs Q E sb.room e0 hb2 r h) fun z s' hq => ?_)
  cases z with
  | error e => exact hx pins σ H s e s' I hq
  | ok fl =>
    cases fl with
    | ret u =>
      obtain ⟨v, H', I', rv, q⟩ := I.after hq
      exact hR v u H' s' I' rv q
    | next => exact hq.elim
    | brk => exact hq.elim
    | cont => exact hq.elim

/-- repr(o): the class's own __repr__ -/
def rReprI (C : Addr) (sp : Sp) (E : XK) : List V → Hp → VK → Prop := fun vs H Q =>
  ∃ a dx fs, vs = [V.ref a] ∧ H a = some (.ins C dx fs) ∧ sp [.ref a] H (fun v H' => (∃ y, v = .str y) ∧ Q v H') E
theorem call_repr_own {CX : CXT} {k : Nat} {C f : Addr} {fd : FuncData} {ps : List Str} {sp : Sp} {E : XK} (F : FnOk X.prog X.w X.K X.mg X.base CX k f fd ps sp) (hr : Room (k + 1) X.A) (hb : Binds X.K fd ps []) (hx : Passes CX X E)
    (hs : PySem.W.findIn X.K (.ref C) "__repr__" = some (some (.ref f))) (hf : PySem.W.isFn X.K (.ref f) = true) : CallR X (.builtin "repr") (rReprI C sp E) := by
  intro pins s σ H xs us Q I r h
  obtain ⟨a, dx, fs, rfl, ha, h⟩ := h
  obtain ⟨u, rfl, ru⟩ := vals1 r
  obtain rfl : u = Value.ref a := ru
  obtain ⟨mA, J, _⟩ := ins_get I.hok ha
  obtain ⟨od, J, _⟩ := J.look
  obtain ⟨m, hF⟩ := I.fr
  refine PySem.W.repr_K hr.in1.units0 hF I.ok.mod.kin J hs hf ?_
  refine run_sub (A := X.A.in1) (vs := [V.ref a]) F ⟨hr.in1, rfl⟩ hb hx I (.cons (show RelV (V.ref a) (Value.ref a) from rfl) .nil) h fun v u H' s' I' rv q => ?_
  obtain ⟨⟨y, rfl⟩, q⟩ := q
  obtain ⟨t, rfl⟩ := rv
  exact ⟨.str y, H', I', ⟨t, rfl⟩, q⟩

/-- repr of an int, of a text -/
def rReprF : List V → Hp → VK → Prop := fun vs H Q =>
  (∃ i, vs = [V.int i] ∧ i.natAbs.log2 < 1920 ∧ Q (.str (toString i)) H) ∨ ∃ y, vs = [V.str y] ∧ (reprText y).length ≤ sizeLine ∧ Q (.str (reprText y)) H
theorem call_repr_flat : CallR X (.builtin "repr") rReprF := by
  intro pins s σ H xs us Q I r h
  rcases h with ⟨i, rfl, hz, q⟩ | ⟨y, rfl, hz, q⟩
  · exact SkE.call_repr_int pins s σ H _ us Q I r ⟨i, rfl, hz, q⟩
  · obtain ⟨u, rfl, t, rfl⟩ := vals1 r
    exact PySem.P.repr_of_str ⟨.str _, H, I.tok _, ⟨_, rfl⟩, q⟩ hz


theorem typeOf_at {M : Model} {h : Heap} {a : Addr} {o : Obj} (e : h.get? a = some o) : PySem.W.Looks M h (typeOf (.ref a)) o.cls := (PySem.W.Looks.ld e).andThen .now
/-- what the type of such a value is -/
theorem typeOf_ty {pins : List (Addr × Obj)} {σ : L2.St} {H : Hp} {s : Shared} {M : Model} {x : V} {u t : Value} (I : Inv X pins σ H s) (rx : RelV x u) (ty : TyX X.K H x t) : PySem.W.Looks M s.heap (typeOf u) t := by
  cases ty with
  | base b =>
    cases b with
    | non => cases (show u = Value.none from rx); exact .of_pure rfl
    | bl y => cases (show u = Value.bool y from rx); exact .of_pure rfl
    | int i => obtain ⟨t, q⟩ := (show ∃ t, u = Value.int i t from rx); cases q; exact .of_pure rfl
    | str y => obtain ⟨t, q⟩ := (show ∃ t, u = Value.str y t from rx); cases q; exact .of_pure rfl
    | flt y => obtain ⟨t, q⟩ := (show ∃ t, u = Value.float y t from rx); cases q; exact .of_pure rfl
    | @lst a xs ea =>
      cases (show u = Value.ref a from rx)
      obtain ⟨_, _, n, _, h1⟩ := (show ObjOk X.prog X.w H s.heap a (.lst xs) from I.hok a _ ea)
      exact typeOf_at h1
    | @frz a ob xs ea =>
      cases (show u = Value.ref a from rx)
      obtain ⟨_, _, _, n, _, h1⟩ := (show ObjOk X.prog X.w H s.heap a (.frz ob (.lst xs)) from I.hok a _ ea)
      exact typeOf_at h1
    | @tup a xs ea =>
      cases (show u = Value.ref a from rx)
      obtain ⟨_, _, _, o, h1, h2, _⟩ := (show ObjOk X.prog X.w H s.heap a (.tup xs) from I.hok a _ ea)
      exact h2 ▸ typeOf_at h1
    | @dK a kvs ea =>
      cases (show u = Value.ref a from rx)
      obtain ⟨_, _, vs, _, o, es, ep, h1, h2, _⟩ := (show ObjOk X.prog X.w H s.heap a (.dK kvs) from I.hok a _ ea)
      exact h2.1 ▸ typeOf_at h1
    | @dT a kvs ea =>
      cases (show u = Value.ref a from rx)
      obtain ⟨_, _, xs, _, o, es, ep, h1, h2, _⟩ := (show ObjOk X.prog X.w H s.heap a (.dT kvs) from I.hok a _ ea)
      exact h2.1 ▸ typeOf_at h1
    | @ins a C dx fs ea cl ha hn htk hm =>
      cases (show u = Value.ref a from rx)
      obtain ⟨mA, O, _⟩ := ins_get I.hok ea
      obtain ⟨od, J, _⟩ := O.look
      exact J.type
  | byt y => obtain ⟨t, q⟩ := (show ∃ t, u = Value.bytes y t from rx); cases q; exact .of_pure rfl
  | @set a S n ea =>
    cases (show u = Value.ref a from rx)
    obtain ⟨o, _, _, _, e, ex, _⟩ := I.hok a _ ea
    exact ex.1 ▸ typeOf_at e
  | @kList a o e c =>
    cases (show u = Value.ref a from rx)
    exact c ▸ typeOf_at (I.kIn a o e)
  | @kTuple a o e c =>
    cases (show u = Value.ref a from rx)
    exact c ▸ typeOf_at (I.kIn a o e)
  | @kDict a o e c =>
    cases (show u = Value.ref a from rx)
    exact c ▸ typeOf_at (I.kIn a o e)
  | @fTuple a ob xs ea =>
    cases (show u = Value.ref a from rx)
    obtain ⟨_, _, _, _, o, h1, h2, _⟩ := (show ObjOk X.prog X.w H s.heap a (.frz ob (.tup xs)) from I.hok a _ ea)
    exact h2 ▸ typeOf_at h1
  | @fDict a ob kvs ea =>
    cases (show u = Value.ref a from rx)
    obtain ⟨_, _, _, vs, _, o, es, ep, h1, h2, _⟩ := (show ObjOk X.prog X.w H s.heap a (.frz ob (.dK kvs)) from I.hok a _ ea)
    exact h2.1 ▸ typeOf_at h1

/-- a == b by the left one's own __eq__: b of a type that is no subclass of a's class -/
def rEqI (K : PySem.W.Frag) (C : Addr) (sp : Sp) (E : XK) (g : Bool → V) : R2 := fun x y H Q =>
  ∃ a dx fs t, x = V.ref a ∧ H a = some (.ins C dx fs) ∧ TyX K H y t ∧ PySem.W.notFirst K C t = true ∧ sp [.ref a, y] H (fun v H' => ∃ b, v = .bl b ∧ Q (g b) H') E
theorem op_eq_own {CX : CXT} {k : Nat} {C f : Addr} {fd : FuncData} {ps : List Str} {sp : Sp} {E : XK} (F : FnOk X.prog X.w X.K X.mg X.base CX k f fd ps sp) (hr : Room k X.A) (hb : Binds X.K fd ps []) (hx : Passes CX X E)
    (hs : PySem.W.findIn X.K (.ref C) "__eq__" = some (some (.ref f))) (hf : PySem.W.isFn X.K (.ref f) = true) : OpR X (compareOp .Eq) (rEqI X.K C sp E V.bl) := by
  intro pins s σ H x y v u Q I rx ry h
  obtain ⟨a, dx, fs, t, rfl, ha, ty, nf, h⟩ := h
  obtain rfl : v = Value.ref a := rx
  obtain ⟨mA, J, _⟩ := ins_get I.hok ha
  obtain ⟨od, J, _⟩ := J.look
  obtain ⟨m, hF⟩ := I.fr
  show wpAny _ _ (richCompare .Eq (.ref a) u) _ _ _
  refine PySem.W.cmp_K (op := .Eq) hr.units0 hF I.ok.mod.kin J (typeOf_ty I ry ty) nf hs hf ?_
  refine run_sub (vs := [V.ref a, y]) F ⟨hr, rfl⟩ hb hx I (.cons (show RelV (V.ref a) (Value.ref a) from rfl) (.cons ry .nil)) h fun v u H' s' I' rv q => ?_
  obtain ⟨b, rfl, q⟩ := q
  obtain rfl : u = Value.bool b := rv
  exact ⟨.bl b, H', I', rfl, q⟩

/-- a slot that the class has from object: found, bound, called -/
theorem ifBound_B {M : Model} {A : Around} {E : Value → Shared → Prop} {s : Shared} {K : PySem.W.Frag} {x C : Addr} {ox : Obj} {od : Option Obj} {name : Str} {id : String} {args : List Value} {Q : Option Value → Shared → Prop} (X : K.In s.heap) (I : PySem.W.InstAt s.heap x ox C od)
    (hs : PySem.W.findIn K (.ref C) name = some (some (.builtin id))) (hb : ∀ self, bindSpecial (.builtin id) self = pure (.builtin id, [self]))
    (h : wpAny M A (call (.builtin id) (.ref x :: args)) (fun v => Q (some v)) E s) : wpAny M A (callSpecialIfBound? (.ref x) name args) Q E s := by
  have fin : wpAny M A (call (.builtin id) ([.ref x] ++ args) >>= fun v => pure (some v)) Q E s := wpAny_bind (wpAny_mono h (fun v s' h' => wpAny_pure h') fun _ _ h' => h')
  simp only [callSpecialIfBound?, bindSpecialIfBound?]
  refine wpAny_holding (wpAny_bind (wpAny_bind (wpAny_bind (I.type.here ((PySem.W.looks_findIn X hs).here ?_)))))
  refine wpAny_bind (wpAny_askSetting (wpAny_ite ?_))
  split
  · exact wpAny_bind ((PySem.W.Looks.of_pure (hb _)).here (wpAny_pure (by exact fin)))
  · exact wpAny_tryCatch (wpAny_bind ((PySem.W.Looks.of_pure (hb _)).here (wpAny_pure (by exact fin))))
/-- a != b where the class has __eq__ alone: object's __ne__ asks it -/
theorem ne_own {prog : Program} {w : World} {A : Around} {E : Value → Shared → Prop} {s : Shared} {K : PySem.W.Frag} {x C f : Addr} {ox : Obj} {od : Option Obj} {b tb : Value} {Q : Value → Shared → Prop} (hu : A.in1.units < cLine) (X : K.In s.heap) (I : PySem.W.InstAt s.heap x ox C od)
    (hb : PySem.W.Looks (model prog w) s.heap (typeOf b) tb) (hn : PySem.W.notFirst K C tb = true) (hne : PySem.W.findIn K (.ref C) "__ne__" = some (some (.builtin "object.__ne__"))) (hm : PySem.W.mroIn K C (.type "object") = some true)
    (hs : PySem.W.findIn K (.ref C) "__eq__" = some (some (.ref f))) (hf : PySem.W.isFn K (.ref f) = true)
    (h : wpAny (model prog w) A.in1 (call (.ref f) [.ref x, b]) (fun v s' => ∃ k, v = .bool k ∧ Q (.bool (!k)) s') E s) : wpAny (model prog w) A (richCompare .NotEq (.ref x) b) Q E s := by
  have hu0 : A.units < cLine := Nat.lt_of_succ_lt hu
  have body : wpAny (model prog w) A (call (.builtin "object.__ne__") [.ref x, b]) (fun v s' => ∃ k, v = .bool k ∧ Q v s') E s := by
    refine wpAny_call (codeAny_call_builtin PySem.F.slot_object_ne.plain PySem.F.entry_object_ne (PySem.W.check_slot (i := "object.__ne__") (owner := "object") (n := "__ne__") (by decide +kernel) (by decide +kernel) (I.type.andThen (PySem.W.looks_mroIn X hm)) (PySem.F.args_object_ne_2 _ _) ?_))
    unfold Builtin.«object.__ne__»
    refine wpAny_bind (m := PySem.slotArgs "__ne__" 1 _) (wpAny_pure ?_)
    refine wpAny_bind (m := cRoomFor _ _) (wpAny_cRoomFor hu ?_)
    refine wpAny_bind (m := callSpecialIfBound? (.ref x) (Str.ofString "__eq__") _) (PySem.W.ifBound_K X I hs hf (wpAny_mono h (fun v s' hv => ?_) fun _ _ e => e))
    obtain ⟨k, rfl, q⟩ := hv
    exact wpAny_bind (wpAny_truthy_bool (wpAny_pure ⟨_, rfl, q⟩))
  have one : wpAny (model prog w) A (tryCompare (.ref x) (cmpInfo .NotEq).2.1 b) (fun r s' => ∃ v, r = some v ∧ Q v s') E s := by
    unfold tryCompare
    refine wpAny_bind (ifBound_B X I hne PySem.F.slot_object_ne.bind (wpAny_mono body (fun v s' hv => ?_) fun _ _ e => e))
    obtain ⟨k, rfl, q⟩ := hv
    exact wpAny_pure ⟨_, rfl, q⟩
  have fin : ∀ {r : Option Value} {s' : Shared}, (∃ v, r = some v ∧ Q v s') → ∃ v, r = some v ∧ Q v s' := fun z => z
  unfold richCompare
  simp only [PySem.oneThing_ref]
  refine wpAny_holding (wpAny_bind (wpAny_cRoomFor hu0 ?_))
  refine wpAny_bind (I.type.here (wpAny_bind (hb.here ?_)))
  split
  · rename_i q
    have e : PySem.W.subIn K tb (.ref C) = some false := by
      rcases Bool.or_eq_true_iff.mp hn with e | e
      · rw [beq_iff_eq.mp e] at q; simp at q
      · exact beq_iff_eq.mp e
    refine wpAny_bind ((PySem.W.looks_subIn X e).here ?_)
    simp only [Bool.false_eq_true, if_false]
    refine wpAny_bind (wpAny_mono one (fun r s' z => ?_) fun _ _ e => e)
    obtain ⟨v, rfl, hq⟩ := z
    exact wpAny_pure hq
  · refine wpAny_bind (wpAny_pure ?_)
    simp only [Bool.false_eq_true, if_false]
    refine wpAny_bind (wpAny_mono one (fun r s' z => ?_) fun _ _ e => e)
    obtain ⟨v, rfl, hq⟩ := z
    exact wpAny_pure hq
theorem op_ne_own {CX : CXT} {k : Nat} {C f : Addr} {fd : FuncData} {ps : List Str} {sp : Sp} {E : XK} (F : FnOk X.prog X.w X.K X.mg X.base CX k f fd ps sp) (hr : Room (k + 1) X.A) (hb : Binds X.K fd ps []) (hx : Passes CX X E)
    (hs : PySem.W.findIn X.K (.ref C) "__eq__" = some (some (.ref f))) (hf : PySem.W.isFn X.K (.ref f) = true)
    (hne : PySem.W.findIn X.K (.ref C) "__ne__" = some (some (.builtin "object.__ne__"))) (hm : PySem.W.mroIn X.K C (.type "object") = some true) : OpR X (compareOp .NotEq) (rEqI X.K C sp E fun b => V.bl (!b)) := by
  intro pins s σ H x y v u Q I rx ry h
  obtain ⟨a, dx, fs, t, rfl, ha, ty, nf, h⟩ := h
  obtain rfl : v = Value.ref a := rx
  obtain ⟨mA, J, _⟩ := ins_get I.hok ha
  obtain ⟨od, J, _⟩ := J.look
  show wpAny _ _ (richCompare .NotEq (.ref a) u) _ _ _
  refine ne_own hr.in1.units0 I.kIn J (typeOf_ty I ry ty) nf hne hm hs hf ?_
  refine run_sub (A := X.A.in1) (vs := [V.ref a, y]) F ⟨hr.in1, rfl⟩ hb hx I (.cons (show RelV (V.ref a) (Value.ref a) from rfl) (.cons ry .nil)) h fun v u H' s' I' rv q => ?_
  obtain ⟨b, rfl, q⟩ := q
  obtain rfl : u = Value.bool b := rv
  exact ⟨b, rfl, .bl (!b), H', I', rfl, q⟩

/-- // by any number that is not nought, both below 2 ^ 9000 -/
def CDivA (_ j : Int) : Prop := j ≠ 0 ∧ j.natAbs.log2 < 9000
theorem op_fdivA : OpR X (binaryOp .FloorDiv) (rI CDivA fun i j => .int (i.fdiv j)) := opI fun i j _ _ _ _ _ hc q =>
  floordiv_int hc.1 q (.inl (PyProof.noPylong_of_log2 hc.2))
end
end Own

set_option Elab.async false
set_option maxRecDepth 100000
set_option maxHeartbeats 4000000
set_option linter.all false
namespace Own
open PySem PySem.Spec PyProof.Rows L2
/-! places of lists -/
theorem atI_lt {α : Type} {xs : List α} {k : Int} (h0 : 0 ≤ k) (h1 : k < xs.length) : ∃ v, xs[k.toNat]? = some v ∧ atI xs k = some v := by
  have hk : k.toNat < xs.length := by omega
  refine ⟨xs[k.toNat], List.getElem?_eq_getElem hk, ?_⟩
  unfold atI ixN
  rw [if_pos h0, if_pos h1]
  exact List.getElem?_eq_getElem hk
theorem atI_map {α β : Type} {f : α → β} {xs : List α} {k : Int} {v : α} (h : atI xs k = some v) : atI (xs.map f) k = some (f v) := by
  unfold atI at h ⊢
  rw [List.length_map]
  cases e : ixN xs.length k with
  | none => rw [e] at h; cases h
  | some j =>
    rw [e] at h
    have h : xs[j]? = some v := h
    show (xs.map f)[j]? = some (f v)
    rw [List.getElem?_map, h]
    rfl
theorem atI_nat {α : Type} {xs : List α} {j : Nat} {v : α} (h : xs[j]? = some v) : atI xs (j : Int) = some v := by
  have hj := (List.getElem?_eq_some_iff.mp h).1
  obtain ⟨w, h1, h2⟩ := atI_lt (xs := xs) (k := (j : Int)) (by omega) (by omega)
  rw [Int.toNat_natCast, h] at h1
  rw [h2, ← h1]
theorem pick4 {P : Int → Prop} {a b c d k : Int} (h0 : 0 ≤ k) (h1 : k < 4) (ha : P a) (hb : P b) (hc : P c) (hd : P d) : ∃ v, atI [V.int a, .int b, .int c, .int d] k = some (.int v) ∧ P v := by
  rcases (by omega : k = 0 ∨ k = 1 ∨ k = 2 ∨ k = 3) with rfl | rfl | rfl | rfl
  · exact ⟨a, rfl, ha⟩
  · exact ⟨b, rfl, hb⟩
  · exact ⟨c, rfl, hc⟩
  · exact ⟨d, rfl, hd⟩
/-- the two places of a pair -/
theorem atI_0 {α : Type} {x : α} {xs : List α} : atI (x :: xs) 0 = some x := Own.atI_nat (j := 0) rfl
theorem atI_1 {α : Type} {x y : α} {xs : List α} : atI (x :: y :: xs) 1 = some y := Own.atI_nat (j := 1) rfl
theorem drawn5 {ds : List Int} {a b c d e : Int} (h : Paired (fun d z => 0 ≤ d ∧ d < z) ds [a, b, c, d, e]) : ∃ v w x y z : Int, ds = [v, w, x, y, z] ∧ (0 ≤ v ∧ v < a) ∧ (0 ≤ w ∧ w < b) ∧ (0 ≤ x ∧ x < c) ∧ (0 ≤ y ∧ y < d) ∧ (0 ≤ z ∧ z < e) := by
  cases h with
  | cons h1 h => cases h with
    | cons h2 h => cases h with
      | cons h3 h => cases h with
        | cons h4 h => cases h with
          | cons h5 h => cases h with
            | nil => exact ⟨_, _, _, _, _, rfl, h1, h2, h3, h4, h5⟩
theorem drawn4 {ds : List Int} {a b c d : Int} (h : Paired (fun d z => 0 ≤ d ∧ d < z) ds [a, b, c, d]) : ∃ v w x y : Int, ds = [v, w, x, y] ∧ (0 ≤ v ∧ v < a) ∧ (0 ≤ w ∧ w < b) ∧ (0 ≤ x ∧ x < c) ∧ (0 ≤ y ∧ y < d) := by
  cases h with
  | cons h1 h => cases h with
    | cons h2 h => cases h with
      | cons h3 h => cases h with
        | cons h4 h => cases h with
          | nil => exact ⟨_, _, _, _, rfl, h1, h2, h3, h4⟩
theorem drawn3 {ds : List Int} {a b c : Int} (h : Paired (fun d z => 0 ≤ d ∧ d < z) ds [a, b, c]) : ∃ v w x : Int, ds = [v, w, x] ∧ (0 ≤ v ∧ v < a) ∧ (0 ≤ w ∧ w < b) ∧ (0 ≤ x ∧ x < c) := by
  cases h with
  | cons h1 h => cases h with
    | cons h2 h => cases h with
      | cons h3 h => cases h with
        | nil => exact ⟨_, _, _, rfl, h1, h2, h3⟩
/-! products -/
theorem mulWn {i j : Int} (n m : Nat) (hi : i.natAbs < 2 ^ n) (hj : j.natAbs < 2 ^ m) (h0 : 0 < n) (h1 : 0 < m) (h : n + m ≤ 1000000) : CMulW i j := wide_mul hi hj h0 h1 h
theorem mulW64 {i j : Int} (hi : i.natAbs < 2 ^ 64) (hj : j.natAbs < 2 ^ 64) : CMulW i j := wide_mul hi hj (by decide) (by decide) (by decide)
theorem mul_lt {i j : Int} (n m : Nat) (hi : i.natAbs < 2 ^ n) (hj : j.natAbs < 2 ^ m) : (i * j).natAbs < 2 ^ (n + m) := wide_lt hi hj
theorem divA_of {i j : Int} (n : Nat) (h : j ≠ 0) (hj : j.natAbs < 2 ^ n) (h0 : 0 < n) (h9 : n ≤ 9000) : CDivA i j := ⟨h, Nat.lt_of_lt_of_le (PySem.Flt.log2_lt_of h0 hj) h9⟩
theorem log2_of {i : Int} (h : i.natAbs < 2 ^ 1920) : i.natAbs.log2 < 1920 := PySem.Flt.log2_lt_of (by decide) h
/-! loops -/
section
variable {K : PySem.W.Frag} {a : Addr} {xs : List V} {g : TG} {tb : TS} {D : Ends} {σ : L2.St} {H : Hp}
theorem for_listI {j : Nat} (hv : σ[j]? = some (some (.ref a))) (hq : SqL K H a xs) (Pv : Nat → L2.St → Hp → Prop) (h0 : Pv 0 σ H) (hl : ∀ i σ H, i ≤ xs.length → Pv i σ H → SqL K H a xs)
    (hs : ∀ i x σ H, xs[i]? = some x → Pv i σ H → g x σ H fun σ2 H2 => tb { D with nx := Pv (i + 1), ct := Pv (i + 1), bk := D.nx } σ2 H2) (hd : ∀ σ H, Pv xs.length σ H → D.nx σ H) : tFor (iList K (tVar j)) g tb D σ H :=
  ⟨_, hv, a, rfl, ⟨_, hq⟩, for_list Pv h0 hl hs hd⟩
theorem for_rangeI {ta : TA} {n : Int} (hta : ∀ R : List V → Hp → Prop, R [.int n] H → ta σ H R) (h1 : 0 ≤ n) (h2 : n < 2 ^ 62) (Pv : Nat → L2.St → Hp → Prop) (h0 : Pv 0 σ H)
    (hs : ∀ (i : Nat) σ H, i < n.toNat → Pv i σ H → g (.int (0 + (i : Int))) σ H fun σ2 H2 => tb { D with nx := Pv (i + 1), ct := Pv (i + 1), bk := D.nx } σ2 H2) (hd : ∀ σ H, Pv n.toNat σ H → D.nx σ H) : tFor (iRng1 ta) g tb D σ H :=
  hta _ ⟨n, rfl, by omega, h2, for_range Pv h0 hs hd⟩
end
theorem seq_i {t u : TS} {D : Ends} {σ : L2.St} {H : Hp} (h : ∀ N : L2.St → Hp → Prop, (∀ σ H, u D σ H → N σ H) → t { D with nx := N } σ H) : tSeq t u D σ H := h _ fun _ _ x => x
/-! the heap grows -/
theorem alloc {H H1 : Hp} {p : Addr} {o : HO} (hp : H p = none) (h : L2.upd H p o = H1) : Ext H H1 ∧ H1 p = some o := by
  subst h
  exact ⟨Ext.upd hp, upd_same⟩
theorem upd_ext {H H1 : Hp} {p : Addr} {o : HO} (e : Ext H H1) (hp : H p = none) : Ext H (L2.upd H1 p o) := fun b u h => by
  rw [upd_ne (ne_of_none h hp)]
  exact e b u h
theorem Ext.refl' (H : Hp) : Ext H H := fun _ _ h => h
theorem seqL {K : PySem.W.Frag} {H H1 : Hp} {a : Addr} {xs : List V} (h : SqL K H a xs) (e : Ext H H1) : SqL K H1 a xs := SqL.ext h e
theorem ofL {K : PySem.W.Frag} {H : Hp} {a : Addr} {xs : List V} (h : H a = some (.lst xs)) : SqL K H a xs := .inl (.inl h)
theorem ofT {K : PySem.W.Frag} {H : Hp} {a : Addr} {xs : List V} (h : H a = some (.tup xs)) : SqT K H a xs := .inl (.inl h)
/-! a slice of ints is ints -/
theorem cut_ints (ns : List Int) (lo hi : Option Int) : ∃ ms : List Int, cutV (ns.map V.int) lo hi = ms.map V.int ∧ ms.length ≤ ns.length := by
  refine ⟨(ns.drop (HT.sIx (ns.map V.int).length 0 lo)).take (HT.sIx (ns.map V.int).length (ns.map V.int).length hi - HT.sIx (ns.map V.int).length 0 lo), ?_, ?_⟩
  · unfold cutV
    rw [List.map_take, List.map_drop]
  · rw [List.length_take, List.length_drop]
    omega
/-! drawn numbers -/
abbrev Drawn (ds szs : List Int) : Prop := Paired (fun d z => 0 ≤ d ∧ d < z) ds szs
theorem take_snoc {α : Type} {xs : List α} {i : Nat} {x : α} (h : xs[i]? = some x) : xs.take (i + 1) = xs.take i ++ [x] := by
  rw [List.take_add_one, h]
  rfl
theorem tyLst {K : PySem.W.Frag} {H : Hp} {p : Addr} {xs : List V} (h : H p = some (.lst xs)) : tyV K "list" (.ref p) H := .inl ⟨rfl, _, .inl (.inl h)⟩
/-- a def with defaults that lets nothing out -/
theorem okD {P : Program} {w : World} {K : PySem.W.Frag} {mg : Str → Option Value} {base : Heap} {x qual : Str} {params : Arguments} {body : List Stmt} {scope : Scope} {dvs : List V} {kws : List (Str × V)} {f : Addr} {fd : FuncData} {N ps : List Str} {k : Nat} {sp : Sp}
    (F : FunD K x qual params body scope dvs kws f fd) (S : FnScope N ps scope) (len : ∀ vs H Q E, sp vs H Q E → vs.length = ps.length)
    (hbody : ∀ (cdv : Value) (A : Around) (outer : List Env) (s : Shared) (H : Hp) (vs : List V) (Q : VK) (E : XK), Room k (A.deeper (envOfC qual scope s.heap.objs.size f cdv)) → sp vs H Q E →
      ∃ t, PSs (cxOf CX0 P w K mg base N qual scope f cdv A outer s H E).nox body t ∧ t { nx := fun _ H' => Q .non H', rt := Q } (L2.start N vs) H) : FnOk P w K mg base CX0 (k + 1) f fd ps sp :=
  F.ok S len fun cdv A outer s H vs Q E hr h => by
    obtain ⟨t, h1, h2⟩ := hbody cdv A outer s H vs Q E hr h
    exact ⟨t, h1.nox, h2⟩
/-- what is never reached -/
theorem pe_never {X : Cx} {e : Expr} : PE X e (fun _ _ _ => False) := ⟨fun _ _ _ _ _ _ h => h.elim⟩
/-- an instance made: its dict, itself, its fields -/
theorem makeP {H H1 : Hp} {x dx C : Addr} {fs0 fs : List (Str × V)} (hx : H x = none) (hd : H dx = none) (h : L2.upd (L2.upd (L2.upd H dx (.own x)) x (.ins C dx fs0)) x (.ins C dx fs) = H1) : Ext H H1 ∧ H1 x = some (.ins C dx fs) := by
  subst h
  exact ⟨upd_ext (upd_ext (Ext.upd hd) hx) hx, upd_same⟩
/-! isinstance against an own class -/
theorem kit_self {K : PySem.W.Frag} {C : Addr} : PySem.W.kitOne K (.ref C) (.ref C) = some true := by
  unfold PySem.W.kitOne
  rw [if_pos (by simp)]
theorem kit_cls_of {K : PySem.W.Frag} {C : Addr} {t : Value} {b : Bool} (h1 : PySem.W.isClsIn K C = true) (h2 : PySem.W.typeIn K (.ref C) = some (.type "type")) (h3 : PySem.W.subIn K t (.ref C) = some b) : PySem.W.kitCls K t (.ref C) = some b := by
  unfold PySem.W.kitCls
  unfold PySem.W.isClsIn at h1
  show (if ((PySem.W.clsIn K C).isSome && PySem.W.typeIn K (.ref C) == some (.type "type")) = true then PySem.W.subIn K t (.ref C) else none) = some b
  rw [h1, h2, if_pos (by simp), h3]
theorem kit_own {K : PySem.W.Frag} {C D : Addr} {b : Bool} (h1 : PySem.W.isClsIn K C = true) (h2 : PySem.W.typeIn K (.ref C) = some (.type "type")) (h3 : PySem.W.subIn K (.ref D) (.ref C) = some b) (hne : ¬ D = C) : PySem.W.kitOne K (.ref D) (.ref C) = some b := by
  unfold PySem.W.kitOne
  rw [if_neg (by simpa using hne)]
  exact kit_cls_of h1 h2 h3
theorem kit_ty {K : PySem.W.Frag} {C : Addr} {n : String} {b : Bool} (h1 : PySem.W.isClsIn K C = true) (h2 : PySem.W.typeIn K (.ref C) = some (.type "type")) (h3 : PySem.W.subIn K (.type n) (.ref C) = some b) : PySem.W.kitOne K (.type n) (.ref C) = some b := by
  unfold PySem.W.kitOne
  rw [if_neg (by simp)]
  exact kit_cls_of h1 h2 h3
/-! fields -/
theorem lookup_ne {f g : Str} {v : V} {fs : List (Str × V)} (h : ¬ g = f) : (putF f v fs).lookup g = fs.lookup g := by rw [lookup_putF, if_neg h]
theorem lookup_eq {f : Str} {v : V} {fs : List (Str × V)} : (putF f v fs).lookup f = some v := by rw [lookup_putF, if_pos rfl]
/-- the fields of a Part -/
def fsP (t l : Int) : List (Str × V) := putF "low" (.int l) (putF "top" (.int t) [])
theorem fsP_top (t l : Int) : (fsP t l).lookup ("top" : Str) = some (.int t) := by
  unfold fsP
  rw [lookup_ne (by decide +kernel), lookup_eq]
theorem fsP_low (t l : Int) : (fsP t l).lookup ("low" : Str) = some (.int l) := lookup_eq
theorem fsP_no (t l : Int) {m : Str} (h1 : ¬ m = "top") (h2 : ¬ m = "low") : (fsP t l).lookup m = none := by
  unfold fsP
  rw [lookup_ne h2, lookup_ne h1]
  rfl
/-- a Part at p -/
def PartAt (C : Addr) (H : Hp) (p : Addr) (t l : Int) : Prop := ∃ dx, H p = some (.ins C dx (fsP t l))
theorem PartAt.ext {C : Addr} {H H1 : Hp} {p : Addr} {t l : Int} (h : PartAt C H p t l) (e : Ext H H1) : PartAt C H1 p t l := let ⟨dx, h⟩ := h; ⟨dx, e _ _ h⟩
def sgn (t : Int) : Int := if t = 0 then 0 else if 0 < t then 1 else -1
/-- how a fraction shows -/
def showP (t l : Int) : Str := if l = 1 then ((toString t : String) : Str) else (((toString t : String) : Str) ++ (Str.ofString "/")) ++ ((toString l : String) : Str)
/-! fractions -/
def gcdI (t l : Int) : Int := ((Nat.gcd t.natAbs l.natAbs : Nat) : Int)
def fracT (t l : Int) : Int := ((if 0 < l then 1 else -1) * t) / gcdI t l
def fracL (t l : Int) : Int := (l.natAbs : Int) / gcdI t l
theorem gcdI_pos {t l : Int} (h : l ≠ 0) : 0 < gcdI t l := by
  unfold gcdI
  have : 0 < Nat.gcd t.natAbs l.natAbs := Nat.gcd_pos_of_pos_right _ (by omega)
  omega
theorem gcdI_le {t l : Int} (h : l ≠ 0) : (gcdI t l).natAbs ≤ l.natAbs := by
  unfold gcdI
  rw [Int.natAbs_natCast]
  exact Nat.le_of_dvd (by omega) (Nat.gcd_dvd_right _ _)
theorem gcdI_dvd_t (t l : Int) : gcdI t l ∣ t := Int.ofNat_dvd_left.mpr (Nat.gcd_dvd_left _ _)
theorem gcdI_dvd_l (t l : Int) : gcdI t l ∣ l := Int.ofNat_dvd_left.mpr (Nat.gcd_dvd_right _ _)
theorem fdiv_neg_dvd {t g : Int} (h : g ∣ t) : t.fdiv (-g) = -(t / g) := by
  rw [Int.fdiv_eq_ediv_of_dvd (Int.neg_dvd.mpr h), Int.ediv_neg]
theorem frac_pos {t l : Int} (h : 0 < l) : t.fdiv (gcdI t l) = fracT t l ∧ l.fdiv (gcdI t l) = fracL t l := by
  refine ⟨?_, ?_⟩
  · unfold fracT
    rw [if_pos h, Int.one_mul, Int.fdiv_eq_ediv_of_dvd (gcdI_dvd_t t l)]
  · unfold fracL
    rw [Int.fdiv_eq_ediv_of_dvd (gcdI_dvd_l t l), Int.natAbs_of_nonneg (by omega)]
theorem frac_neg {t l : Int} (h : l < 0) : t.fdiv (-gcdI t l) = fracT t l ∧ l.fdiv (-gcdI t l) = fracL t l := by
  refine ⟨?_, ?_⟩
  · unfold fracT
    rw [if_neg (by omega), fdiv_neg_dvd (gcdI_dvd_t t l), Int.neg_mul, Int.one_mul, Int.neg_ediv_of_dvd (gcdI_dvd_t t l)]
  · unfold fracL
    rw [fdiv_neg_dvd (gcdI_dvd_l t l), ← Int.neg_ediv_of_dvd (gcdI_dvd_l t l)]
    congr 1
    omega
theorem gcdI_scale {k : Int} (hk : 0 < k) (t l : Int) : gcdI (t * k) (l * k) = gcdI t l * k := by
  unfold gcdI
  rw [Int.natAbs_mul, Int.natAbs_mul, Nat.gcd_mul_right, Int.natCast_mul, Int.natAbs_of_nonneg (by omega)]
theorem frac_scale {k : Int} (hk : 0 < k) (t l : Int) : fracT (t * k) (l * k) = fracT t l ∧ fracL (t * k) (l * k) = fracL t l := by
  have hs : (0 < l * k) ↔ (0 < l) := by
    constructor
    · intro h
      rcases Int.lt_trichotomy l 0 with h1 | h1 | h1
      · have := Int.mul_neg_of_neg_of_pos h1 hk
        omega
      · subst h1; omega
      · exact h1
    · exact fun h => Int.mul_pos h hk
  refine ⟨?_, ?_⟩
  · unfold fracT
    rw [gcdI_scale hk, ← Int.mul_assoc]
    have e : (if 0 < l * k then (1 : Int) else -1) = if 0 < l then 1 else -1 := by
      by_cases h : 0 < l
      · rw [if_pos h, if_pos (hs.mpr h)]
      · rw [if_neg h, if_neg (fun z => h (hs.mp z))]
    rw [e]
    exact Int.mul_ediv_mul_of_pos_left _ _ hk
  · unfold fracL
    rw [gcdI_scale hk, Int.natAbs_mul, Int.natCast_mul, Int.natAbs_of_nonneg (a := k) (by omega)]
    exact Int.mul_ediv_mul_of_pos_left _ _ hk
theorem fracL_pos {t l : Int} (h : l ≠ 0) : 0 < fracL t l := by
  unfold fracL
  have hd : gcdI t l ∣ (l.natAbs : Int) := Int.ofNat_dvd_left.mpr (by rw [Int.natAbs_natCast]; exact Nat.gcd_dvd_right _ _)
  obtain ⟨c, hc⟩ := hd
  have hg := gcdI_pos (t := t) h
  rw [hc, Int.mul_ediv_cancel_left _ (by omega)]
  have h2 : 0 < c * gcdI t l := by rw [Int.mul_comm, ← hc]; omega
  exact Int.pos_of_mul_pos_left h2 hg
/-- a fraction by its two quotients: t = g c, l = g d -/
theorem frac_split {t l : Int} (h : l ≠ 0) : ∃ g c d : Int, 0 < g ∧ t = g * c ∧ l = g * d ∧ ((0 < l ∧ fracT t l = c ∧ fracL t l = d) ∨ (l < 0 ∧ fracT t l = -c ∧ fracL t l = -d)) := by
  have hg := gcdI_pos (t := t) h
  obtain ⟨c, hc⟩ := gcdI_dvd_t t l
  obtain ⟨d, hd⟩ := gcdI_dvd_l t l
  have e1 : t / gcdI t l = c := by
    conv => lhs; lhs; rw [hc]
    exact Int.mul_ediv_cancel_left _ (by omega)
  have e2 : l / gcdI t l = d := by
    conv => lhs; lhs; rw [hd]
    exact Int.mul_ediv_cancel_left _ (by omega)
  refine ⟨gcdI t l, c, d, hg, hc, hd, ?_⟩
  rcases Int.lt_trichotomy l 0 with h1 | h1 | h1
  · refine .inr ⟨h1, ?_, ?_⟩
    · rw [← (frac_neg h1).1, fdiv_neg_dvd (gcdI_dvd_t t l), e1]
    · rw [← (frac_neg h1).2, fdiv_neg_dvd (gcdI_dvd_l t l), e2]
  · exact absurd h1 h
  · refine .inl ⟨h1, ?_, ?_⟩
    · rw [← (frac_pos h1).1, Int.fdiv_eq_ediv_of_dvd (gcdI_dvd_t t l), e1]
    · rw [← (frac_pos h1).2, Int.fdiv_eq_ediv_of_dvd (gcdI_dvd_l t l), e2]
theorem frac_cross {t l : Int} (h : l ≠ 0) : fracT t l * l = t * fracL t l := by
  obtain ⟨g, c, d, _, h1, h2, h3⟩ := frac_split (t := t) h
  rcases h3 with ⟨_, e1, e2⟩ | ⟨_, e1, e2⟩
  · rw [e1, e2]
    conv => lhs; rw [h2]
    conv => rhs; rw [h1]
    rw [Int.mul_left_comm, Int.mul_assoc]
  · rw [e1, e2]
    conv => lhs; rw [h2]
    conv => rhs; rw [h1]
    rw [Int.mul_left_comm, Int.neg_mul, Int.mul_neg, Int.mul_neg, Int.mul_assoc]
theorem fracT_le {t l : Int} (h : l ≠ 0) : (fracT t l).natAbs ≤ t.natAbs := by
  obtain ⟨g, c, d, hg, h1, h2, h3⟩ := frac_split (t := t) h
  have e : (fracT t l).natAbs = c.natAbs := by
    rcases h3 with ⟨_, e1, _⟩ | ⟨_, e1, _⟩
    · rw [e1]
    · rw [e1, Int.natAbs_neg]
  have e2 : t.natAbs = g.natAbs * c.natAbs := by
    conv => lhs; rw [h1]
    exact Int.natAbs_mul _ _
  rw [e, e2]
  exact Nat.le_mul_of_pos_left _ (by omega)
theorem fracL_le {t l : Int} (h : l ≠ 0) : (fracL t l).natAbs ≤ l.natAbs := by
  obtain ⟨g, c, d, hg, h1, h2, h3⟩ := frac_split (t := t) h
  have e : (fracL t l).natAbs = d.natAbs := by
    rcases h3 with ⟨_, _, e1⟩ | ⟨_, _, e1⟩
    · rw [e1]
    · rw [e1, Int.natAbs_neg]
  have e2 : l.natAbs = g.natAbs * d.natAbs := by
    conv => lhs; rw [h2]
    exact Int.natAbs_mul _ _
  rw [e, e2]
  exact Nat.le_mul_of_pos_left _ (by omega)
theorem fracT_zero {t l : Int} (h : l ≠ 0) : fracT t l = 0 ↔ t = 0 := by
  have hc := frac_cross (t := t) h
  have hL := fracL_pos (t := t) h
  constructor
  · intro z
    rw [z, Int.zero_mul] at hc
    rcases Int.mul_eq_zero.mp hc.symm with z | z
    · exact z
    · omega
  · intro z
    rw [z, Int.zero_mul] at hc
    rcases Int.mul_eq_zero.mp hc with z | z
    · rw [← z, ‹t = 0›]
    · exact absurd z h
theorem frac_neg_neg {t l : Int} (h : l ≠ 0) : fracT (-t) (-l) = fracT t l ∧ fracL (-t) (-l) = fracL t l := by
  have eg : gcdI (-t) (-l) = gcdI t l := by
    unfold gcdI
    rw [Int.natAbs_neg, Int.natAbs_neg]
  refine ⟨?_, ?_⟩
  · unfold fracT
    rw [eg]
    congr 1
    by_cases h1 : 0 < l
    · rw [if_pos h1, if_neg (by omega)]
      omega
    · rw [if_neg h1, if_pos (by omega)]
      omega
  · unfold fracL
    rw [eg, Int.natAbs_neg]
/-- T/L is not (T + L)/L, nor (2T + 1)/2L -/
theorem frac_other1 {T L : Int} (hL : 0 < L) : ¬ (T = fracT (T + L) L ∧ L = fracL (T + L) L) := by
  rintro ⟨h1, h2⟩
  have hc := frac_cross (t := T + L) (l := L) (by omega)
  rw [← h1, ← h2, Int.add_mul] at hc
  have : 0 < L * L := Int.mul_pos hL hL
  omega
theorem frac_other2 {T L : Int} (hL : 0 < L) : ¬ (T = fracT (T * 2 + 1) (L * 2) ∧ L = fracL (T * 2 + 1) (L * 2)) := by
  rintro ⟨h1, h2⟩
  have hc := frac_cross (t := T * 2 + 1) (l := L * 2) (by omega)
  rw [← h1, ← h2, Int.add_mul, Int.mul_assoc T 2 L, Int.mul_comm 2 L] at hc
  omega
/-! texts of numbers -/
theorem int_text_len {i : Int} (h : i.natAbs.log2 < 1920) : ((toString i : String) : Str).length ≤ 1921 := PyProof.Rows.int_text_len_1921 h
theorem int_text_low {i : Int} : ∀ c ∈ ((toString i : String) : Str).cps.toList, c < 128 := fun c hc => by
  rcases Nat.lt_or_ge c 128 with h | h
  · exact h
  · exact absurd hc (PyProof.Rows.int_text_free' c ⟨by omega, by omega⟩ i)
/-- a text whose repr has room -/
structure Small (y : Str) (n : Nat) : Prop where
  len : y.length ≤ n
  low : ∀ c ∈ y.cps.toList, c < 128
theorem Small.int {i : Int} (h : i.natAbs.log2 < 1920) : Small ((toString i : String) : Str) 1921 := ⟨int_text_len h, int_text_low⟩
theorem Small.app {x y : Str} {n m : Nat} (a : Small x n) (b : Small y m) : Small (x ++ y) (n + m) := by
  refine ⟨?_, fun c hc => ?_⟩
  · rw [strLen_append]
    exact Nat.add_le_add a.len b.len
  · rw [Str.cps_append, Array.toList_append] at hc
    rcases List.mem_append.mp hc with h | h
    · exact a.low c h
    · exact b.low c h
theorem Small.mono {x : Str} {n m : Nat} (a : Small x n) (h : n ≤ m) : Small x m := ⟨Nat.le_trans a.len h, a.low⟩
theorem Small.repr {y : Str} {n : Nat} (a : Small y n) (h : n ≤ 1000000) : (reprText y).length ≤ sizeLine := by
  have h1 := StrLaws.reprText_len y fun c hc => Nat.lt_of_lt_of_le (a.low c hc) (by decide)
  have h2 := a.len
  have h3 : sizeLine = 16777216 := rfl
  omega
theorem shaped_str {y : Str} {n : Nat} (a : Small y n) : SeqAt.shaped (.str y) = true := by
  have h : (PyData.str y).canLay0 = true := by
    show PySem.PyData.strOk y = true
    unfold PySem.PyData.strOk
    rw [Array.all_eq_true]
    intro j hj
    have := a.low y.cps[j] (by simp)
    exact decide_eq_true (by omega)
  unfold SeqAt.shaped
  rw [h]
  rfl
/-- a dict comprehension's turns over a list that stays -/
theorem dcW_list {K : PySem.W.Frag} {a : Addr} {xs : List V} {g : TG} {tt : TT} {tk tv : TE} {vs : List Nat} {σ : L2.St} {H1 : Hp} {D : Addr} {Qd : Hp → Prop} (Pv : Nat → Hp → Prop) (h0 : Pv 0 (L2.upd H1 D (.dK [])))
    (hl : ∀ i H, i ≤ xs.length → Pv i H → SqL K H a xs)
    (hs : ∀ i x H, xs[i]? = some x → Pv i H → g x (wipe σ vs) H fun σ2 H2 => wipe σ2 vs = wipe σ vs ∧ tt σ2 H2 fun b H3 =>
      if b = true then tk σ2 H3 fun y H4 => tv σ2 H4 fun z H5 => ∃ kvs k, y = kV k ∧ H5 D = some (.dK kvs) ∧ kvs.length < sizeLine ∧ Pv (i + 1) (L2.upd H5 D (.dK (putK kvs k z))) else Pv (i + 1) H3)
    (hd : ∀ H, Pv xs.length H → Qd H) :
    ∃ W : Nat → Nat → Hp → Prop, (∃ m, W 0 m (L2.upd H1 D (.dK []))) ∧ ∀ i m H, W i m H →
      ((Itl K a).stop i H ∧ Qd H) ∨ ((Itl K a).go i H ∧ ∃ Nx : Hp → Prop, (∀ H', Nx H' → ∃ m', m' < m ∧ W (i + 1) m' H') ∧ ∀ x H', (Itl K a).yld i H x H' → g x (wipe σ vs) H' fun σ2 H2 => wipe σ2 vs = wipe σ vs ∧ tt σ2 H2 fun b H3 =>
        if b = true then tk σ2 H3 fun y H4 => tv σ2 H4 fun z H5 => ∃ kvs k, y = kV k ∧ H5 D = some (.dK kvs) ∧ kvs.length < sizeLine ∧ Nx (L2.upd H5 D (.dK (putK kvs k z))) else Nx H3) := by
  refine ⟨fun i m H => m + i = xs.length ∧ Pv i H, ⟨xs.length, rfl, h0⟩, fun i m H w => ?_⟩
  obtain ⟨hm, hp⟩ := w
  have hq := hl i H (by omega) hp
  rcases Nat.lt_or_ge i xs.length with hlt | hge
  · refine .inr ⟨⟨xs, xs[i], hq, by simp [hlt]⟩, Pv (i + 1), fun H' hn => ⟨m - 1, by omega, by omega, hn⟩, fun x H' y => ?_⟩
    obtain ⟨e, y⟩ := y
    subst e
    exact hs i x _ (y xs hq) hp
  · obtain rfl : i = xs.length := by omega
    exact .inl ⟨⟨xs, hq, Nat.le_refl _⟩, hd H hp⟩
/-- sorted of a dict with text keys, by a name -/
def rSortN : List V → Hp → VK → Prop := fun xs H Q => ∃ (a : Addr) (kvs : List (Key × V)) (ks : List Str), xs = [.ref a] ∧ Rd H a (.dK kvs) ∧ kvs.map (·.1) = ks.map Sum.inr ∧ ks.length < 64 ∧ ∀ ys p, ys.Perm ks → sortedS ys = true → H p = none → Q (.ref p) (L2.upd H p (.lst (ys.map V.str)))
theorem cr_sortN {X : Cx} (hc : X.calm = true) : CallR X (.builtin "sorted") rSortN := call_sortedD hc
/-- {k: v for k in sorted(d) if ..} -/
theorem dc_sorted {K : PySem.W.Frag} {j : Nat} {d : Addr} {kvs : List (Key × V)} {ks : List Str} {g : TG} {tt : TT} {tk tv : TE} {vs : List Nat} {σ : L2.St} {H : Hp} {Q : VK} (hv : σ[j]? = some (some (.ref d))) (hd : H d = some (.dK kvs))
    (hk : kvs.map (·.1) = ks.map Sum.inr) (hn : ks.length < 64)
    (h : ∀ (ys : List Str) (s D : Addr) (H1 : Hp), ys.Perm ks → sortedS ys = true → Ext H H1 → H1 s = some (.lst (ys.map V.str)) → H1 D = none →
      ∃ Pv : Nat → Hp → Prop, Pv 0 (L2.upd H1 D (.dK [])) ∧ (∀ i H', Pv i H' → H' s = some (.lst (ys.map V.str))) ∧
        (∀ i x H', ys[i]? = some x → Pv i H' → g (.str x) (wipe σ vs) H' fun σ2 H2 => wipe σ2 vs = wipe σ vs ∧ tt σ2 H2 fun b H3 =>
          if b = true then tk σ2 H3 fun y H4 => tv σ2 H4 fun z H5 => ∃ kvs k, y = kV k ∧ H5 D = some (.dK kvs) ∧ kvs.length < sizeLine ∧ Pv (i + 1) (L2.upd H5 D (.dK (putK kvs k z))) else Pv (i + 1) H3) ∧
        (∀ H', Pv ys.length H' → Q (.ref D) H')) :
    tDc (iList K (tCB rSortN (tCons (tVar j) tNil))) g tt tk tv vs σ H Q := by
  refine ⟨_, hv, d, kvs, ks, rfl, .inl hd, hk, hn, fun ys s hp hs hsn => ⟨s, rfl, ⟨_, ofL upd_same⟩, fun D hD => ?_⟩⟩
  obtain ⟨Pv, h0, h1, h2, h3⟩ := h ys s D _ hp hs (Ext.upd hsn) upd_same hD
  refine dcW_list (a := s) (xs := ys.map V.str) Pv h0 (fun i H' _ p => ofL (h1 i H' p)) (fun i x H' hx p => ?_) (fun H' p => h3 H' (by rw [List.length_map] at p; exact p))
  rw [List.getElem?_map] at hx
  cases e : ys[i]? with
  | none => rw [e] at hx; cases hx
  | some y =>
    rw [e] at hx
    obtain rfl : x = V.str y := (Option.some.inj hx).symm
    exact h2 i y H' e p
end Own

set_option Elab.async false
set_option maxRecDepth 100000
set_option maxHeartbeats 4000000
set_option linter.all false
/-! Defs that are run where nothing is being shown (no repr of a list or tuple is under way): repr of data is then known. -/
namespace Own
open PySem PySem.Spec PyProof.Rows L2
/-- a promise that is kept where no repr is under way -/
structure FnG (P : Program) (w : World) (K : PySem.W.Frag) (mg : Str → Option Value) (base : Heap) (CX : CXT) (k : Nat) (f : Addr) (fd : FuncData) (ps : List Str) (sp : Sp) : Prop where
  len : ∀ vs H Q E, sp vs H Q E → vs.length = ps.length
  run : ∀ (A : Around) (outer : List Env) (s : Shared) (H : Hp) (args : Args) (us : List Value) (vs : List V) (Q : VK) (E : XK), A.guards = some [] → Room k A → Env0 P w K mg base A outer s H →
    BindsTo s fd args (ps.zip us) → Vals vs us → sp vs H Q E → codeAny (model P w) A (.call (.ref f) args) (CR CX outer P w H s Q E) s
section
variable {P : Program} {w : World} {K : PySem.W.Frag} {mg : Str → Option Value} {base : Heap} {CX : CXT} {k : Nat} {f : Addr} {fd : FuncData} {ps : List Str} {sp : Sp}
theorem FnG.of (F : FnOk P w K mg base CX k f fd ps sp) : FnG P w K mg base CX k f fd ps sp := ⟨F.len, fun A outer s H args us vs Q E _ => F.run A outer s H args us vs Q E⟩
/-- a def by its body, as fn_of: no repr is under way in the body either -/
theorem fn_ofG {name qual : Str} {params : Arguments} {body : List Stmt} {scope : Scope} {dV kV doc pm cdv ct oc : Value} {an od : Option Addr} {osl : Array (Option Value)} {N : List Str}
    (lk : K.lookup f = some ⟨oc, od, .func (PySem.W.fnOf name qual params body scope dV kV doc pm an cdv ct), osl⟩) (hcd : PySem.W.codeIn K cdv qual = true) (S : FnScope N ps scope) (len : ∀ vs H Q E, sp vs H Q E → vs.length = ps.length)
    (hbody : ∀ (A : Around) (outer : List Env) (s : Shared) (H : Hp) (vs : List V) (Q : VK) (E : XK), A.guards = some [] → Room k (A.deeper (envOfC qual scope s.heap.objs.size f cdv)) → sp vs H Q E →
      ∃ t, PSs (cxOf CX P w K mg base N qual scope f cdv A outer s H E) body t ∧ t { nx := fun _ H' => Q .non H', rt := Q } (L2.start N vs) H) :
    FnG P w K mg base CX (k + 1) f (PySem.W.fnOf name qual params body scope dV kV doc pm an cdv ct) ps sp := by
  constructor
  · exact len
  · intro A outer s H args us vs Q E hg hr e0 hb r hsp
    have hl : vs.length = ps.length := len vs H Q E hsp
    have sees : ∀ b o, base.get? b = some o → s.heap.get? b = some o := fun b o e => (e0.bs b o e).1
    have KX : K.In s.heap := e0.mod.kin.keeps sees
    have par : ∀ y ∈ ps.zip us, scope.names.lookup y.1 = some .local ∨ (scope.names.lookup y.1 = some .cell ∧ ((cellsFrom (s.heap.objs.size + 1) scope.names []).lookup y.1).isSome = true) := by
      rintro ⟨n, v⟩ hy
      have hn : n ∈ ps := (List.of_mem_zip hy).1
      cases S.par n hn with
      | inl q => exact .inl q
      | inr q => exact .inr ⟨q, PySem.W.cellsFrom_some _ _ _ (.inl q)⟩
    refine codeAny_call_function hr.depth (KX f _ lk) rfl S.co S.gen rfl (PySem.W.codeRec_of KX hcd) ?_
    refine hb _ _ _ _ (wpAny_newFunctionEnv_cells S.kind par ?_)
    intro env he s1 x
    subst he
    refine ⟨(e0.mod.nolimit.keeps sees).keeps x.toInCall.keep, codeAny_func ?_⟩
    obtain ⟨t, ht, hq⟩ := hbody A outer s H vs Q E hg (hr.deeper _) hsp
    refine wpAny_mono (ht.run [] s1 (L2.start N vs) H _ (inv_start S hr.hd e0 hl r x) hq) ?_ (fun e s' z => z)
    intro fl s' hs
    cases fl with
    | brk => exact hs.elim fun _ z => z.elim fun _ z => z.2.elim
    | cont => exact hs.elim fun _ z => z.elim fun _ z => z.2.elim
    | next =>
      obtain ⟨σ', H', J, q⟩ := hs
      exact ⟨V.non, H', J.os, J.bare, J.base, J.hok, rfl, q⟩
    | ret u =>
      obtain ⟨v, σ', H', J, rv, q⟩ := hs
      exact ⟨v, H', J.os, J.bare, J.base, J.hok, rv, q⟩
/-- the same for a def of the text that lets nothing out -/
theorem okG {x qual : Str} {st : Stmt} {N : List Str} (F : Fun K x qual st f fd) (S : FnScope N ps (defScope st)) (len : ∀ vs H Q E, sp vs H Q E → vs.length = ps.length)
    (hbody : ∀ (cdv : Value) (A : Around) (outer : List Env) (s : Shared) (H : Hp) (vs : List V) (Q : VK) (E : XK), A.guards = some [] → Room k (A.deeper (envOfC qual (defScope st) s.heap.objs.size f cdv)) → sp vs H Q E →
      ∃ t, PSs (cxOf CX0 P w K mg base N qual (defScope st) f cdv A outer s H E).nox (defBody st) t ∧ t { nx := fun _ H' => Q .non H', rt := Q } (L2.start N vs) H) : FnG P w K mg base CX0 (k + 1) f fd ps sp := by
  obtain ⟨oc, od, kV, doc, pm, an, cdv, ct, osl, rfl, lk, hcd⟩ := F.ex
  refine fn_ofG lk hcd S len fun A outer s H vs Q E hg hr hsp => ?_
  obtain ⟨t, h, q⟩ := hbody cdv A outer s H vs Q E hg hr hsp
  exact ⟨t, h.nox, q⟩
end
section
variable {X : Cx} {CX : CXT} {k : Nat} {f : Addr} {fd : FuncData} {ps : List Str} {sp : Sp} {E : XK} {x : Str} {p pos : Pos} {e : Expr} {es : List Expr} {t : TA}
/-- f(e, ..) of such a def, from a body in which no repr is under way -/
theorem pe_callG (F : FnG X.prog X.w X.K X.mg X.base CX k f fd ps sp) (hgd : X.A.guards = some []) (hr : Room k X.A) (hg : Gl X x) (hm : X.mg x = some (.ref f)) (hk : PySem.W.keepIn X.K (.ref f) = true) (hb : Binds X.K fd ps []) (hx : Passes CX X E)
    (ha : PA X (e :: es) t) (hdb : (x == ("__debug__" : Str)) = false := by decide) (he : starEach (e :: es) X.env = (false, eval e X.env) :: starEach es X.env := by rfl) (hpl : (backTo pos (starEach es X.env)).any (·.1) = false := by rfl) :
    PE X (.Call (.Name x p) (e :: es) [] pos) (tCall sp [] E t) := by
  constructor
  intro pins s σ H Q I h
  have args := ha.run pos pins s σ H _ I h
  refine wpAny_Call_Name_kw (ld_glob I hg hm ?_ hdb)
  refine PySem.W.callWith_K (h₀ := X.base) I.ok.mod.kin hk (thn args ?_) he hpl
  rintro us s1 ⟨vs, H1, I1, r, q⟩
  refine ⟨I1.kIn, ?_⟩
  rw [List.append_nil] at q
  have hl : (us ++ []).length = ps.length := by rw [List.append_nil, ← r.length]; exact F.len _ _ _ _ q
  have hb2 := hb s1 us I1.kIn hl
  rw [List.append_nil] at hb2
  refine wpAny_call (codeAny_mono (F.run X.A X.stack s1 H1 ⟨us, []⟩ us vs Q E hgd hr I1.env0 hb2 r q) ?_)
  intro z s' hq
  match z, hq with
  | .error e, hq => exact hx pins σ H1 s1 e s' I1 hq
  | .ok (.ret u), hq => exact I1.after hq
  | .ok .next, hq => exact hq.elim
  | .ok .brk, hq => exact hq.elim
  | .ok .cont, hq => exact hq.elim
/-- repr of data: lists, tuples, ints, texts -/
def rReprD (K : PySem.W.Frag) : List V → Hp → VK → Prop := fun vs H Q => ∃ x d, vs = [x] ∧ Dp K H x d ∧ d.showable = true ∧ d.hasDict = false ∧ d.depth ≤ 32 ∧ d.shown.length ≤ sizeLine ∧ Q (.str d.shown) H
end

section
variable {X : Cx}
theorem call_reprD (hgd : X.A.guards = some []) (hr : Room 1 X.A) : CallR X (.builtin "repr") (rReprD X.K) := by
  intro pins s σ H xs us Q I r h
  obtain ⟨x, d, rfl, hd, h1, h2, h3, h4, q⟩ := h
  obtain ⟨u, rfl, ru⟩ := vals1 r
  obtain ⟨as, rd⟩ := Dp.reads I d x u hd ru
  have hu : X.A.units + (d.depth + 1) < cLine := by
    have := hr.units
    omega
  cases hd with
  | non =>
    cases (show u = Value.none from ru)
    exact PySem.P.repr_of_none ⟨.str _, H, I.tok _, ⟨_, rfl⟩, q⟩
  | bl b =>
    cases (show u = Value.bool b from ru)
    exact PySem.P.repr_of_bool ⟨.str _, H, I.tok _, ⟨_, rfl⟩, q⟩
  | int i =>
    obtain ⟨t, rfl⟩ := (show ∃ t, u = Value.int i t from ru)
    exact PySem.P.repr_of_int (of_decide_eq_true h1) ⟨.str _, H, I.tok _, ⟨_, rfl⟩, q⟩
  | str y =>
    obtain ⟨t, rfl⟩ := (show ∃ t, u = Value.str y t from ru)
    exact PySem.P.repr_of_str ⟨.str _, H, I.tok _, ⟨_, rfl⟩, q⟩ h4
  | @lst a xs ds hs ha =>
    cases (show u = Value.ref a from ru)
    exact PySem.repr_of_reads' rd h1 (PyData.noDict_hsm h2) hgd hu (fun _ _ e => e) (fun h' v tk hk => ⟨.str _, H, I.kept hk, ⟨_, rfl⟩, q⟩) h4
  | @tup a xs ds hs ha =>
    cases (show u = Value.ref a from ru)
    exact PySem.repr_of_reads' rd h1 (PyData.noDict_hsm h2) hgd hu (fun _ _ e => e) (fun h' v tk hk => ⟨.str _, H, I.kept hk, ⟨_, rfl⟩, q⟩) h4
end
/-- data that holds no dict is no dict -/
theorem ty_data {K : PySem.W.Frag} {H : Hp} {y : V} {d : PyData} (h : Dp K H y d) : ∃ n, TyX K H y (.type n) ∧ kitB n "dict" = some false := by
  cases h with
  | non => exact ⟨_, .base .non, by decide +kernel⟩
  | bl b => exact ⟨_, .base (.bl b), by decide +kernel⟩
  | int i => exact ⟨_, .base (.int i), by decide +kernel⟩
  | str x => exact ⟨_, .base (.str x), by decide +kernel⟩
  | @lst a xs ds hs _ =>
    rcases hs with (hs | ⟨o, hs⟩) | hs
    · exact ⟨_, .base (.lst hs), by decide +kernel⟩
    · exact ⟨_, .base (.frz hs), by decide +kernel⟩
    · obtain ⟨o, its, n, hk, hc, _⟩ := hs
      exact ⟨_, .kList hk hc, by decide +kernel⟩
  | @tup a xs ds hs _ =>
    rcases hs with (hs | ⟨o, hs⟩) | hs
    · exact ⟨_, .base (.tup hs), by decide +kernel⟩
    · exact ⟨_, .fTuple hs, by decide +kernel⟩
    · obtain ⟨o, its, n, hk, hc, _⟩ := hs
      exact ⟨_, .kTuple hk hc, by decide +kernel⟩
/-! the law's own call: nothing is being shown when it begins -/
theorem ints_vals {vs : List Value} {ns : List Int} (h : IntsAre vs ns) : Vals (ns.map V.int) vs := vals_ints h
theorem law_runG {P : Program} {w : World} {K : PySem.W.Frag} {mg mb : Str → Option Value} {CX : CXT} {k : Nat} {fa a : Addr} {fd : FuncData} {x : Str} {sp : Sp} {s₁ : Shared} {vs : List Value} {H : Hp}
    (hO : Only H) (hA : ∀ b, H b ≠ none → b = a) (hKa : H a ≠ none → K.lookup a = none) (hok : HOk P w H s₁.heap)
    (KX : K.In s₁.heap) (hns : s₁.heap.Ns mainGlobals mg) (hb : s₁.heap.Ns builtinsNs mb) (hbb : ∀ x : Str, x ≠ "__name__" → mb x = bootBuiltins x) (hlim : s₁.heap.NoLimit) (hg : s₁.gens = #[])
    (ha : s₁.heap.get? a = some { cls := .type "list", data := .seq vs.toArray }) (hr : Room k callerA)
    (F : ∀ base : Heap, K.In base → base.Ns mainGlobals mg → FnG P w K mg base CX k fa fd [x] sp) (hbind : ∀ (s : Shared) (u : Value), BindsTo s fd ⟨[u], []⟩ [(x, u)])
    (hsp : sp [.ref a] H (fun v _ => v = .bl true) fun _ _ _ => False) (hCX : ∀ e s', CX [] H s₁ (fun _ _ _ => False) e s' → False) :
    codeAny (model P w) callerA (.call (.ref fa) ⟨[.ref a], []⟩) (fun r s' => r = .ok (.ret (.bool true)) ∧ OldK s₁.heap s'.heap ∧ s'.os = s₁.os ∧ AllBare s'.gens) s₁ := by
  have free : ∀ b, b ≠ a → H b = none := fun b hne => Classical.byContradiction fun z => hne (hA b z)
  have notA : ∀ {o : Obj} {es : Array DictEntry} {ep : Nat} {b : Addr}, s₁.heap.get? b = some o → o.data = .dict es ep → b ≠ a := by
    intro o es ep b e d z
    rw [z, ha] at e
    rw [← Option.some.inj e] at d
    cases d
  have inBase : ∀ {b : Addr} {m : Str → Option Value}, s₁.heap.Ns b m → (hidT s₁.heap H).Ns b m := by
    rintro b m ⟨o, es, ep, e, d, r⟩
    exact ⟨o, es, ep, hidT_get e (free b (notA e d)), d, r⟩
  have KB : K.In (hidT s₁.heap H) := by
    intro b o e
    refine hidT_get (KX b o e) (Classical.byContradiction fun z => ?_)
    have := hKa ((hA b z) ▸ z)
    rw [← hA b z, e] at this
    cases this
  obtain ⟨mc, l1, l2⟩ := hlim
  have M : Mod K mg (hidT s₁.heap H) := ⟨KB, inBase hns, ⟨mb, inBase hb, hbb⟩, ⟨mc, inBase l1, l2⟩⟩
  have none_in : ∀ b, b ∉ ([] : List Addr) := fun b => List.not_mem_nil
  have e0 : Env0 P w K mg (hidT s₁.heap H) callerA [] s₁ H := ⟨rfl, M, fun b o e => of_hidT e, Nat.le_of_eq (hidT_size _ _), trivial, fun b z => absurd z (none_in b), hok, .of_eq hg⟩
  have run := (F _ KB (inBase hns)).run callerA [] s₁ H ⟨[.ref a], []⟩ [.ref a] [.ref a] _ _ rfl hr e0 (hbind s₁ (.ref a)) (.cons rfl .nil) hsp
  refine codeAny_mono run ?_
  intro r s' h
  match r, h with
  | .error e, h => exact (hCX e s' h).elim
  | .ok .next, h => exact h.elim
  | .ok .brk, h => exact h.elim
  | .ok .cont, h => exact h.elim
  | .ok (.ret u), h =>
    obtain ⟨v, H', os, bare, un, hok', rv, rfl⟩ := h
    obtain rfl : u = Value.bool true := rv
    refine ⟨rfl, OldK.of_keep ?_, os, bare⟩
    intro b o e
    cases q : H b with
    | none => exact un.keep b o e q (none_in b) (none_in b)
    | some y =>
      rcases hO b with z | ⟨ob, xs, z⟩
      · rw [q] at z
        cases z
      · have k1 := (hok b _ z).1
        have k2 := (hok' b _ (un.frzs b ob _ z)).1
        rw [e] at k1
        rw [Option.some.inj k1]
        exact k2
theorem law_callG {P : Program} {w : World} {K : PySem.W.Frag} {mg mb : Str → Option Value} {CX : CXT} {k : Nat} {fa a : Addr} {fd : FuncData} {x : Str} {sp : Sp} {s₁ : Shared} {vs : List Value} {ns : List Int}
    (KX : K.In s₁.heap) (hns : s₁.heap.Ns mainGlobals mg) (hb : s₁.heap.Ns builtinsNs mb) (hbb : ∀ x : Str, x ≠ "__name__" → mb x = bootBuiltins x) (hlim : s₁.heap.NoLimit) (hg : s₁.gens = #[])
    (ha : s₁.heap.get? a = some { cls := .type "list", data := .seq vs.toArray }) (hi : IntsAre vs ns) (hl : ns.length ≤ sizeLine) (hr : Room k callerA)
    (F : ∀ base : Heap, K.In base → base.Ns mainGlobals mg → FnG P w K mg base CX k fa fd [x] sp) (hbind : ∀ (s : Shared) (u : Value), BindsTo s fd ⟨[u], []⟩ [(x, u)])
    (hsp : ∀ H : Hp, Only H → SqL K H a (ns.map V.int) → sp [.ref a] H (fun v _ => v = .bl true) fun _ _ _ => False) (hCX : ∀ H e s', CX [] H s₁ (fun _ _ _ => False) e s' → False) :
    codeAny (model P w) callerA (.call (.ref fa) ⟨[.ref a], []⟩) (fun r s' => r = .ok (.ret (.bool true)) ∧ OldK s₁.heap s'.heap ∧ s'.os = s₁.os ∧ AllBare s'.gens) s₁ := by
  have rv := ints_vals hi
  have lv : vs.length = ns.length := hi.length
  cases hk : K.lookup a with
  | some o =>
    have e := KX a o hk
    rw [ha] at e
    obtain rfl := Option.some.inj e
    have hO : Only (fun _ => none) := fun _ => .inl rfl
    have hok : HOk P w (fun _ => none) s₁.heap := fun b u z => by cases (show (none : Option HO) = some u from z)
    exact law_runG hO (fun b z => absurd rfl z) (fun z => absurd rfl z) hok KX hns hb hbb hlim hg ha hr F hbind
      (hsp _ hO (.inr ⟨_, vs.toArray, _, hk, rfl, rfl, rfl, by rw [List.size_toArray, lv]; exact hl, by simpa using rv⟩)) (hCX _)
  | none =>
    let H0 : Hp := fun b => if b = a then some (.frz { cls := .type "list", data := .seq vs.toArray } (.lst (ns.map V.int))) else none
    have at_a : H0 a = some (.frz { cls := .type "list", data := .seq vs.toArray } (.lst (ns.map V.int))) := if_pos rfl
    have off : ∀ b, b ≠ a → H0 b = none := fun b hne => if_neg hne
    have hO : Only H0 := fun b => by
      by_cases e : b = a
      · exact .inr ⟨_, _, e ▸ at_a⟩
      · exact .inl (off b e)
    have hA : ∀ b, H0 b ≠ none → b = a := fun b z => Classical.byContradiction fun e => z (off b e)
    have hok : HOk P w H0 s₁.heap := fun b u z => by
      have e : b = a := hA b (by rw [z]; simp)
      subst e
      rw [at_a] at z
      obtain rfl := Option.some.inj z
      exact ⟨ha, by rw [List.length_map]; exact hl, vs, _, rv, ha⟩
    exact law_runG hO hA (fun _ => hk) hok KX hns hb hbb hlim hg ha hr F hbind (hsp H0 hO (.inl (.inr ⟨_, at_a⟩))) (hCX _)
theorem walk_ofG {l : PySem.W.OpenLaw} {n k : Nat} {q : Program} {loose : List Str} {XP : (Str → Option Value) → Heap → Prop} {YP : World → Heap → Prop} {d : DefRec} {K : Params → PySem.W.Frag} {CX : World → CXT} {sp : World → Sp} {x : Str}
    (hn : l.most = some n) (hn2 : n ≤ sizeLine) (hdf : d.params.defaults = []) (hr : Room k callerA) (hY : ∀ (w : World) (h : Heap), YP w h → (K w.params).In h)
    (F : ∀ (w : World) (mg : Str → Option Value) (fa : Addr) (h : Heap), (K w.params).In h → h.Ns mainGlobals mg → mg d.name = some (.ref fa) →
      ∃ fd : FuncData, (∀ (s : Shared) (u : Value), BindsTo s fd ⟨[u], []⟩ [(x, u)]) ∧ ∀ base : Heap, (K w.params).In base → base.Ns mainGlobals mg → FnG l.prog w (K w.params) mg base (CX w) k fa fd [x] (sp w))
    (hsp : ∀ (w : World) (H : Hp) (a : Addr) (ns : List Int), ns.length ≤ n → Only H → SqL (K w.params) H a (ns.map V.int) → sp w [.ref a] H (fun v _ => v = .bl true) fun _ _ _ => False)
    (hCX : ∀ (w : World) (H : Hp) (s : Shared) (e : Value) (s' : Shared), CX w [] H s (fun _ _ _ => False) e s' → False) :
    PySem.W.WalkO q loose XP YP l.row.toRowW d [] (fun f vs => PySem.call f vs) := by
  refine Att.attach_call hn hdf ?_
  intro w s₀ s₁ mg mb fa o pm cd doc a vs ns G Y ho hd hcd hmg hobj hints hlen hg
  have KX := hY w _ Y
  obtain ⟨fd, hb, hF⟩ := F w mg fa _ KX G.T.g hmg
  exact law_callG KX G.T.g G.T.b G.T.builtins G.T.nolimit hg hobj hints (Nat.le_trans hlen hn2) hr hF hb (fun H hO hS => hsp w H a ns hlen hO hS) (fun H e s' => hCX w H s₁ e s')
end Own

set_option Elab.async false
set_option maxRecDepth 100000
set_option maxHeartbeats 4000000
set_option linter.all false
/-! comprehensions by walks; names -/
namespace Own
open PySem PySem.Spec PyProof.Rows L2
theorem tLc_i {wi : TI} {g : TG} {tt : TT} {te : TE} {vs : List Nat} {σ : L2.St} {H H1 : Hp} {Q : VK} {J : It} {n : Nat} {G : Hp → Prop} {Y : Nat → Hp → V → Hp → Prop} (hwi : ∀ R : It → Hp → Prop, R J H1 → wi σ H R) (w : Walk J n G Y)
    (h : ∀ D, H1 D = none → ∃ Pv : Nat → Hp → Prop, Pv 0 (L2.upd H1 D (.lst [])) ∧ (∀ i H, i ≤ n → Pv i H → G H) ∧
      (∀ i x H H', i < n → Pv i H → Y i H x H' → g x (wipe σ vs) H' fun σ2 H2 => wipe σ2 vs = wipe σ vs ∧ tt σ2 H2 fun b H3 =>
        if b = true then te σ2 H3 fun y H4 => ∃ acc, H4 D = some (.lst acc) ∧ acc.length < sizeLine ∧ Pv (i + 1) (L2.upd H4 D (.lst (acc ++ [y]))) else Pv (i + 1) H3) ∧
      (∀ H, Pv n H → Q (.ref D) H)) : tLc wi g tt te vs σ H Q :=
  hwi _ fun D hD => by
    obtain ⟨Pv, h0, hG, hs, hd⟩ := h D hD
    exact lc_it w Pv h0 hG hs hd
theorem tFor_i {wi : TI} {g : TG} {tb : TS} {D : Ends} {σ : L2.St} {H H1 : Hp} {J : It} {n : Nat} {G : Hp → Prop} {Y : Nat → Hp → V → Hp → Prop} (hwi : ∀ R : It → Hp → Prop, R J H1 → wi σ H R) (w : Walk J n G Y)
    (Pv : Nat → L2.St → Hp → Prop) (h0 : Pv 0 σ H1) (hG : ∀ i σ H, i ≤ n → Pv i σ H → G H)
    (hs : ∀ i x σ H H', i < n → Pv i σ H → Y i H x H' → g x σ H' fun σ2 H2 => tb { D with nx := Pv (i + 1), ct := Pv (i + 1), bk := D.nx } σ2 H2) (hd : ∀ σ H, Pv n σ H → D.nx σ H) : tFor wi g tb D σ H :=
  hwi _ (for_it w Pv h0 hG hs hd)
/-! ### texts of small letters -/
def Low (c : Nat) : Prop := 97 ≤ c ∧ c ≤ 122
/-- a text of n letters a to z -/
structure Let (z : Str) (n : Nat) : Prop where
  len : z.length = n
  low : ∀ c ∈ z.cps.toList, Low c
theorem len_list (z : Str) : z.length = z.cps.toList.length := by simp [Str.length]
theorem Let.app {x y : Str} {n m : Nat} (a : Let x n) (b : Let y m) : Let (x ++ y) (n + m) := by
  refine ⟨?_, fun c hc => ?_⟩
  · rw [strLen_append, a.len, b.len]
  · rw [Str.cps_append, Array.toList_append] at hc
    rcases List.mem_append.mp hc with h | h
    · exact a.low c h
    · exact b.low c h
theorem Let.one {c : Nat} (h : Low c) : Let ⟨#[c]⟩ 1 := ⟨rfl, fun d hd => by
  have : d = c := by simpa using hd
  exact this ▸ h⟩
theorem Let.small {z : Str} {n : Nat} (a : Let z n) : Small z n := ⟨Nat.le_of_eq a.len, fun c hc => by have := a.low c hc; unfold Low at this; omega⟩
theorem Let.cut {z : Str} {n : Nat} (a : Let z n) (k : Nat) : Let (cutS z none (some (k : Int))) (min k n) ∧ Let (cutS z (some (k : Int)) none) (n - min k n) := by
  have e : z.cps.toList.length = n := by rw [← len_list]; exact a.len
  refine ⟨⟨?_, fun c hc => ?_⟩, ⟨?_, fun c hc => ?_⟩⟩
  · rw [len_list]
    show (((z.cps.toList.drop 0).take (HT.sIx z.length z.length (some (k : Int)) - 0)).toArray.toList).length = _
    rw [HT.sIx_nat, a.len, List.drop_zero]
    simp only [List.length_take, e]
    omega
  · unfold cutS at hc
    exact a.low c (List.mem_of_mem_drop (List.mem_of_mem_take hc))
  · rw [len_list]
    show (((z.cps.toList.drop (HT.sIx z.length 0 (some (k : Int)))).take (z.length - HT.sIx z.length 0 (some (k : Int)))).toArray.toList).length = _
    rw [HT.sIx_nat, a.len]
    simp only [List.length_take, List.length_drop, e]
    omega
  · unfold cutS at hc
    exact a.low c (List.mem_of_mem_drop (List.mem_of_mem_take hc))
/-- the twenty-six letters -/
abbrev abc : Str := Str.ofString "abcdefghijklmnopqrstuvwxyz"
theorem abc_list : abc.cps.toList = List.range' 97 26 := by decide +kernel
theorem abc_at {k : Int} (h0 : 0 ≤ k) (h1 : k < 26) : atI abc.cps.toList k = some (97 + k.toNat) ∧ Low (97 + k.toNat) := by
  obtain ⟨v, e1, e2⟩ := atI_lt (xs := abc.cps.toList) h0 (by rw [abc_list, List.length_range']; omega)
  rw [abc_list, List.getElem?_range' (by omega)] at e1
  refine ⟨?_, by unfold Low; omega⟩
  rw [e2, ← e1, Nat.one_mul]
theorem Let.nil : Let Str.empty 0 := ⟨rfl, fun c hc => by simp [Str.empty] at hc⟩
theorem join_let' : ∀ (ys : List Str), (∀ y ∈ ys, Let y 1) → Let (Str.join Str.empty ys) ys.length
  | [], _ => Let.nil
  | [x], h => h x List.mem_cons_self
  | x :: z :: r, h => by
    have ih := join_let' (z :: r) fun y hy => h y (List.mem_cons_of_mem _ hy)
    have hx := h x List.mem_cons_self
    have e : Str.join Str.empty (x :: z :: r) = x ++ Str.empty ++ Str.join Str.empty (z :: r) := rfl
    rw [e]
    have := (hx.app Let.nil).app ih
    rw [show (x :: z :: r).length = 1 + 0 + (z :: r).length by simp only [List.length_cons]; omega]
    exact this
theorem join_let (ys : List Str) (h : ∀ y ∈ ys, Let y 1) : Let (PySem.Txt.join Str.empty ys) ys.length := by
  rw [TL.join_eq]
  exact join_let' ys h
/-- sep.join(list of texts), by a name -/
def rJoinN (K : PySem.W.Frag) : V → List V → Hp → VK → Prop := fun x xs H Q => ∃ a p, ∃ ys : List Str, x = .str a ∧ xs = [.ref p] ∧ (SqL K H p (ys.map V.str) ∨ SqT K H p (ys.map V.str)) ∧ (ys.map (·.length)).sum + ys.length * a.length ≤ 16777216 ∧ Q (.str (PySem.Txt.join a ys)) H
theorem pe_joinN {X : Cx} {o e : Expr} {to te : TE} {apos pos : Pos} (ho : PE X o to) (he : PE X e te) (hs : starEach [e] X.env = [(false, eval e X.env)] := by rfl) (hbase : attributeBase o "join" X.env (eval o X.env) = eval o X.env := by rfl) (hline : (apos.endLine == pos.line) = true := by rfl) :
    PE X (.Call (.Attribute o "join" apos) [e] [] pos) (tM1 (rJoinN X.K) to te) := pe_join ho he hs hbase hline
/-! rules within a comprehension's block: the written part by its own name -/
section
variable {X : Cx} {K : PySem.W.Frag}
theorem inK (h : X.K = K) : OpR X (compareOp .In) (rIn K false) := h ▸ op_in_seq
theorem notInK (h : X.K = K) : OpR X (compareOp .NotIn) (rIn K true) := h ▸ op_notIn_seq
theorem ixLK (h : X.K = K) : IxR X (rIxL K) := h ▸ ix_list
theorem ixTK (h : X.K = K) : IxR X (rIxT K) := h ▸ ix_tup
theorem slLK (h : X.K = K) : SlR X (rSlL K) := h ▸ sl_list
theorem isiK (h : X.K = K) : CallR X (.builtin "isinstance") (rIsi K) := h ▸ call_isi
theorem fldK {e : Expr} {ta : TE} {f : Str} {pos : Pos} (h : X.K = K) (he : PE X e ta) (hb : attributeBase e f X.env (eval e X.env) = eval e X.env) : PE X (.Attribute e f pos) (tFld K ta f) := h ▸ pe_fld he hb
end
/-! a text among texts -/
theorem in_strs {z : Str} {zs : List Str} : inV (.str z) (zs.map V.str) = true ↔ z ∈ zs := by
  unfold inV
  rw [List.any_map, List.any_eq_true]
  constructor
  · rintro ⟨y, hy, e⟩
    have e : eqV (.str y) (.str z) = true := e
    have : y = z := by simpa [eqV] using e
    exact this ▸ hy
  · exact fun h => ⟨z, h, by simp [eqV]⟩
theorem flat_strs (zs : List Str) : (zs.map V.str).all flatV = true := by
  rw [List.all_map, List.all_eq_true]
  exact fun _ _ => rfl
/-- the spare names -/
def cand (c t : Nat) : Str := ⟨#[122, c, 105 + t]⟩
theorem cand_let {c t : Nat} (hc : Low c) (ht : t < 12) : Let (cand c t) 3 := ⟨rfl, fun d hd => by
  have hd : d = 122 ∨ d = c ∨ d = 105 + t := by simpa [cand] using hd
  unfold Low at hc ⊢
  omega⟩
theorem cands_nd (c : Nat) : ((List.range 12).map (cand c)).Nodup := by
  rw [List.nodup_iff_pairwise_ne, List.pairwise_map]
  refine (List.nodup_range (n := 12)).imp ?_
  intro i j hne e
  have : 105 + i = 105 + j := by
    have := congrArg (fun z : Str => z.cps[2]?) e
    simpa [cand] using this
  omega
/-! ### the pigeons -/
theorem nodup_le {α : Type} [DecidableEq α] : ∀ {l m : List α}, l.Nodup → (∀ x ∈ l, x ∈ m) → l.length ≤ m.length
  | [], _, _, _ => Nat.zero_le _
  | x :: l, m, hn, h => by
    have hx : x ∈ m := h x List.mem_cons_self
    have hn' := List.nodup_cons.mp hn
    have ih := nodup_le (l := l) (m := m.erase x) hn'.2 fun y hy => (List.mem_erase_of_ne (fun e : y = x => hn'.1 (e ▸ hy))).mpr (h y (List.mem_cons_of_mem _ hy))
    rw [List.length_erase_of_mem hx] at ih
    have := List.length_pos_of_mem hx
    rw [List.length_cons]
    omega
abbrev tails : Str := Str.ofString "ijklmnopqrst"
theorem tails_size : tails.cps.size = 12 := by decide +kernel
theorem tails_list : tails.cps.toList = List.range' 105 12 := by decide +kernel
theorem tails_at {i c : Nat} (h : tails.cps[i]? = some c) : i < 12 ∧ c = 105 + i := by
  rw [← Array.getElem?_toList, tails_list] at h
  have hi := (List.getElem?_eq_some_iff.mp h).1
  rw [List.length_range'] at hi
  rw [List.getElem?_range' hi] at h
  exact ⟨hi, by have := Option.some.inj h; omega⟩
theorem cand_app (c t : Nat) : (Str.ofString "z" ++ (⟨#[c]⟩ : Str)) ++ (⟨#[t]⟩ : Str) = ⟨#[122, c, t]⟩ := by
  have e : Str.ofString "z" = ⟨#[122]⟩ := by decide +kernel
  rw [e]
  rfl
/-- some spare name is not taken -/
theorem cand_free {zs : List Str} {c : Nat} (h : zs.length < 12) : ¬ ∀ t, t < 12 → cand c t ∈ zs := fun z => by
  have := nodup_le (cands_nd c) fun x hx => by
    obtain ⟨t, ht, e⟩ := List.mem_map.mp hx
    exact e ▸ z t (List.mem_range.mp ht)
  rw [List.length_map, List.length_range] at this
  omega
/-! written tuples -/
def SqtK (K : PySem.W.Frag) (p : Addr) (xs : List V) : Prop := ∃ (o : Obj) (its : Array Value) (n : Nat), K.lookup p = some o ∧ o.cls = .type "tuple" ∧ o.data = .seq its n ∧ its.size ≤ sizeLine ∧ Vals xs its.toList
theorem SqtK.sq {K : PySem.W.Frag} {p : Addr} {xs : List V} (h : SqtK K p xs) (H : Hp) : SqT K H p xs := .inr h
/-! rows of names and numbers -/
/-- a row's cell -/
abbrev rowH (r : Str × Int) : HO := .tup [.str r.1, .int r.2]
def RowsIn (H : Hp) (ts : List Addr) (rs : List (Str × Int)) : Prop := Paired (fun t r => H t = some (rowH r)) ts rs
def RowsAt (H : Hp) (p : Addr) (rs : List (Str × Int)) : Prop := ∃ ts : List Addr, H p = some (.lst (ts.map V.ref)) ∧ RowsIn H ts rs
theorem pmono {α β : Type} {F G : α → β → Prop} (h : ∀ x y, F x y → G x y) : ∀ {xs : List α} {ys : List β}, Paired F xs ys → Paired G xs ys
  | _, _, .nil => .nil
  | _, _, .cons a b => .cons (h _ _ a) (pmono h b)
theorem RowsIn.ext {H H' : Hp} {ts : List Addr} {rs : List (Str × Int)} (h : RowsIn H ts rs) (e : Ext H H') : RowsIn H' ts rs := pmono (fun _ _ z => e _ _ z) h
theorem RowsAt.ext {H H' : Hp} {p : Addr} {rs : List (Str × Int)} (h : RowsAt H p rs) (e : Ext H H') : RowsAt H' p rs := by
  obtain ⟨ts, h1, h2⟩ := h
  exact ⟨ts, e _ _ h1, h2.ext e⟩
/-- another list is written -/
theorem RowsIn.upd {H : Hp} {q : Addr} {xs : List V} {u : HO} {ts : List Addr} {rs : List (Str × Int)} (h : RowsIn H ts rs) (hq : H q = some (.lst xs)) : RowsIn (L2.upd H q u) ts rs := pmono (fun t r z => by
  by_cases e : t = q
  · rw [e, hq] at z
    cases z
  · rw [upd_ne e]
    exact z) h
theorem RowsIn.len {H : Hp} {ts : List Addr} {rs : List (Str × Int)} (h : RowsIn H ts rs) : ts.length = rs.length := Paired.length h
theorem RowsIn.get {H : Hp} : ∀ {ts : List Addr} {rs : List (Str × Int)} {i : Nat} {t : Addr}, RowsIn H ts rs → ts[i]? = some t → ∃ r, rs[i]? = some r ∧ H t = some (rowH r)
  | _, _, _, _, .nil, e => by simp at e
  | _, _, 0, _, .cons a _, e => by
    cases (Option.some.inj e)
    exact ⟨_, rfl, a⟩
  | _, _, i + 1, _, .cons _ b, e => RowsIn.get (i := i) b (by simpa using e)
theorem RowsIn.snoc {H : Hp} {ts : List Addr} {rs : List (Str × Int)} {t : Addr} {r : Str × Int} (h : RowsIn H ts rs) (e : H t = some (rowH r)) : RowsIn H (ts ++ [t]) (rs ++ [r]) := Paired.snoc h e
def rowD (r : Str × Int) : PyData := .tuple [.str r.1, .int r.2]
theorem RowsIn.dp {K : PySem.W.Frag} {H : Hp} : ∀ {ts : List Addr} {rs : List (Str × Int)}, RowsIn H ts rs → DpAll K H (ts.map V.ref) (rs.map rowD)
  | _, _, .nil => .nil
  | _, _, .cons a b => .cons (.tup (ofT a) (.cons (.str _) (.cons (.int _) .nil))) (RowsIn.dp b)
theorem RowsAt.dp {K : PySem.W.Frag} {H : Hp} {p : Addr} {rs : List (Str × Int)} (h : RowsAt H p rs) : Dp K H (.ref p) (.list (rs.map rowD)) := by
  obtain ⟨ts, h1, h2⟩ := h
  exact .lst (ofL h1) h2.dp
end Own

set_option Elab.async false
set_option maxRecDepth 100000
set_option maxHeartbeats 4000000
set_option linter.all false
/-! data that may be held against itself and shown -/
namespace Own
open PySem PySem.Spec PyProof.Rows L2
/-- what _law_same may be asked of -/
structure Neat (d : PyData) : Prop where
  lay : d.canLay0 = true
  show_ : d.showable = true
  deep : d.depth ≤ 32
  len : d.shown.length ≤ sizeLine
theorem Neat.shaped {d : PyData} (h : Neat d) : SeqAt.shaped d = true := by
  unfold SeqAt.shaped
  rw [h.lay, Bool.true_and]
  exact decide_eq_true (Nat.le_trans h.deep (by decide))
theorem Neat.noDict {d : PyData} (h : Neat d) : d.hasDict = false := PyData.hasDict_of_canLay d h.lay
theorem Neat.refl {d : PyData} (h : Neat d) : PyData.eqv d d = true := SeqAt.eqv_refl d h.lay
/-- the same, with a bound of its own for the text and for the depth -/
structure Mild (d : PyData) (n k : Nat) : Prop where
  lay : d.canLay0 = true
  show_ : d.showable = true
  deep : d.depth ≤ k
  len : d.shown.length ≤ n
theorem Mild.neat {d : PyData} {n k : Nat} (h : Mild d n k) (hn : n ≤ 16777216) (hk : k ≤ 32) : Neat d := ⟨h.lay, h.show_, Nat.le_trans h.deep hk, Nat.le_trans h.len hn⟩
theorem Mild.mono {d : PyData} {n k m j : Nat} (h : Mild d n k) (hn : n ≤ m) (hk : k ≤ j) : Mild d m j := ⟨h.lay, h.show_, Nat.le_trans h.deep hk, Nat.le_trans h.len hn⟩
theorem Mild.int {i : Int} (h : i.natAbs.log2 < 1920) : Mild (.int i) 1921 0 := ⟨rfl, decide_eq_true h, Nat.le_refl _, int_text_len h⟩
theorem Mild.str {y : Str} {n : Nat} (a : Small y n) : Mild (.str y) (2 + 10 * n) 0 := by
  refine ⟨?_, rfl, Nat.le_refl _, ?_⟩
  · show PySem.PyData.strOk y = true
    unfold PySem.PyData.strOk
    rw [Array.all_eq_true]
    intro j hj
    have := a.low y.cps[j] (by simp)
    exact decide_eq_true (by omega)
  · show (reprText y).length ≤ _
    have h1 := StrLaws.reprText_len y fun c hc => Nat.lt_of_lt_of_le (a.low c hc) (by decide)
    have h2 := a.len
    omega
theorem textFrom_le : ∀ (ts : List Str) (k : Nat) (acc : Str), (textFrom k acc ts).length ≤ acc.length + (ts.map fun t => t.length + 2).sum
  | [], k, acc => by
    show acc.length ≤ acc.length + 0
    omega
  | t :: r, k, acc => by
    have h := textFrom_le r (k + 1) (acc ++ (if k > 0 then ", " else "" : String) ++ t)
    have e : (acc ++ (if k > 0 then ", " else "" : String) ++ t).length = acc.length + (if k > 0 then 2 else 0) + t.length := by
      rw [strLen_append, strLen_append]
      by_cases hk : k > 0
      · rw [if_pos hk, if_pos hk]
        rfl
      · rw [if_neg hk, if_neg hk]
        rfl
    have e2 : textFrom k acc (t :: r) = textFrom (k + 1) (acc ++ (if k > 0 then ", " else "" : String) ++ t) r := rfl
    rw [e2, List.map_cons, List.sum_cons]
    rw [e] at h
    have hs : (if k > 0 then 2 else 0) ≤ 2 := by split <;> omega
    omega
theorem join_le : ∀ ts : List Str, (Str.join ", " ts).length ≤ (ts.map fun t => t.length + 2).sum
  | [] => Nat.le_of_eq rfl
  | [x] => by
    show x.length ≤ x.length + 2 + 0
    omega
  | x :: y :: r => by
    have h := join_le (y :: r)
    have e : Str.join ", " (x :: y :: r) = x ++ (", " : Str) ++ Str.join ", " (y :: r) := rfl
    have e2 : ((", " : Str)).length = 2 := by decide +kernel
    rw [e, strLen_append, strLen_append, e2, List.map_cons, List.sum_cons]
    omega
theorem sum_le {m : Nat} : ∀ {ts : List Str}, (∀ t ∈ ts, t.length ≤ m) → (ts.map fun t => t.length + 2).sum ≤ ts.length * (m + 2)
  | [], _ => Nat.le_of_eq (Nat.zero_mul _).symm
  | t :: r, h => by
    have h1 := sum_le fun x hx => h x (List.mem_cons_of_mem _ hx)
    have h2 := h t List.mem_cons_self
    rw [List.map_cons, List.sum_cons, List.length_cons, Nat.succ_mul]
    omega
theorem all_mild {n k : Nat} : ∀ {ds : List PyData}, (∀ d ∈ ds, Mild d n k) → PyData.canLayAll0 ds = true ∧ PyData.showableAll ds = true ∧ PyData.depthAll ds ≤ k ∧ (PyData.shownAll ds).length = ds.length ∧ ∀ t ∈ PyData.shownAll ds, t.length ≤ n
  | [], _ => ⟨rfl, rfl, Nat.zero_le _, rfl, fun t ht => absurd ht List.not_mem_nil⟩
  | d :: ds, h => by
    obtain ⟨h1, h2, h3, h4, h5⟩ := all_mild fun x hx => h x (List.mem_cons_of_mem _ hx)
    have hd := h d List.mem_cons_self
    refine ⟨?_, ?_, ?_, ?_, ?_⟩
    · show (d.canLay0 && PyData.canLayAll0 ds) = true
      rw [hd.lay, h1]
      rfl
    · show (d.showable && PyData.showableAll ds) = true
      rw [hd.show_, h2]
      rfl
    · show max d.depth (PyData.depthAll ds) ≤ k
      exact Nat.max_le.mpr ⟨hd.deep, h3⟩
    · show (PyData.shownAll ds).length + 1 = ds.length + 1
      rw [h4]
    · intro t ht
      rcases List.mem_cons.mp (show t ∈ d.shown :: PyData.shownAll ds from ht) with e | e
      · rw [e]
        exact hd.len
      · exact h5 t e
theorem Mild.list {ds : List PyData} {n k m : Nat} (h : ∀ d ∈ ds, Mild d n k) (hm : ds.length ≤ m) : Mild (.list ds) (2 + m * (n + 2)) (k + 1) := by
  obtain ⟨h1, h2, h3, h4, h5⟩ := all_mild h
  refine ⟨h1, h2, Nat.succ_le_succ h3, ?_⟩
  show (listText (PyData.shownAll ds)).length ≤ _
  have a := textFrom_le (PyData.shownAll ds) 0 "["
  have b := sum_le h5
  rw [h4] at b
  have c : ds.length * (n + 2) ≤ m * (n + 2) := Nat.mul_le_mul_right _ hm
  have e : (listText (PyData.shownAll ds)).length = (textFrom 0 "[" (PyData.shownAll ds)).length + 1 := by
    show (textFrom 0 "[" (PyData.shownAll ds) ++ _).length = _
    rw [strLen_append]
    rfl
  have e1 : ((("[" : String) : Str)).length = 1 := by decide +kernel
  rw [e1] at a
  omega
theorem Mild.tuple {ds : List PyData} {n k m : Nat} (h : ∀ d ∈ ds, Mild d n k) (hm : ds.length ≤ m) : Mild (.tuple ds) (3 + m * (n + 2)) (k + 1) := by
  obtain ⟨h1, h2, h3, h4, h5⟩ := all_mild h
  refine ⟨h1, h2, Nat.succ_le_succ h3, ?_⟩
  show (tupleText (PyData.shownAll ds)).length ≤ _
  have a := join_le (PyData.shownAll ds)
  have b := sum_le h5
  rw [h4] at b
  have c : ds.length * (n + 2) ≤ m * (n + 2) := Nat.mul_le_mul_right _ hm
  have e : (tupleText (PyData.shownAll ds)).length ≤ (Str.join ", " (PyData.shownAll ds)).length + 3 := by
    show (("(" : Str) ++ Str.join ", " (PyData.shownAll ds) ++ (if (PyData.shownAll ds).length == 1 then ",)" else ")" : String)).length ≤ _
    rw [strLen_append, strLen_append]
    have e1 : (("(" : Str)).length = 1 := by decide +kernel
    have e2 : ((",)" : String) : Str).length = 2 := by decide +kernel
    have e3 : ((")" : String) : Str).length = 1 := by decide +kernel
    rw [e1]
    split
    · rw [e2]; omega
    · rw [e3]; omega
  omega
/-- a row of a name and a number -/
theorem Mild.row {r : Str × Int} {n : Nat} (a : Small r.1 n) (hn : n ≤ 100) (h : r.2.natAbs.log2 < 1920) : Mild (rowD r) 4000 1 := by
  refine (Mild.tuple (n := 1921) (k := 0) (m := 2) (fun d hd => ?_) (Nat.le_refl _)).mono (by decide) (Nat.le_refl _)
  rcases List.mem_cons.mp hd with e | e
  · rw [e]
    exact (Mild.str a).mono (by omega) (Nat.le_refl _)
  · rw [List.mem_singleton.mp e]
    exact Mild.int h
end Own

set_option Elab.async false
set_option maxRecDepth 100000
set_option maxHeartbeats 4000000
set_option linter.all false
/-! fractions in lowest terms are the core library's rationals -/
namespace Own
open PySem PySem.Spec PyProof.Rows L2
theorem gcd_int (t l : Int) : gcdI t l = ((l.gcd t : Nat) : Int) := by
  unfold gcdI
  rw [Nat.gcd_comm]
  rfl
theorem fracT_rat {t l : Int} (h : l ≠ 0) : fracT t l = (Rat.divInt t l).num := by
  rw [Rat.num_divInt]
  unfold fracT
  rw [gcd_int]
  congr 2
  split
  · rename_i hp
    exact (Int.sign_eq_one_of_pos hp).symm
  · rename_i hp
    exact (Int.sign_eq_neg_one_of_neg (by omega)).symm
theorem fracL_rat {t l : Int} (h : l ≠ 0) : fracL t l = ((Rat.divInt t l).den : Int) := by
  rw [Rat.den_divInt, if_neg h]
  unfold fracL
  rw [gcd_int, Int.natCast_ediv]
/-- a rational of few digits -/
structure Sz (x : Rat) (b : Nat) : Prop where
  n : x.num.natAbs < 2 ^ b
  d : x.den < 2 ^ b
theorem Sz.mono {x : Rat} {b c : Nat} (h : Sz x b) (e : b ≤ c) : Sz x c := ⟨Nat.lt_of_lt_of_le h.n (Nat.pow_le_pow_right (by decide) e), Nat.lt_of_lt_of_le h.d (Nat.pow_le_pow_right (by decide) e)⟩
theorem Sz.of {t l : Int} {b : Nat} (h : l ≠ 0) (h1 : t.natAbs < 2 ^ b) (h2 : l.natAbs < 2 ^ b) : Sz (Rat.divInt t l) b := by
  refine ⟨?_, ?_⟩
  · rw [← fracT_rat h]
    exact Nat.lt_of_le_of_lt (fracT_le h) h1
  · have e := fracL_rat (t := t) h
    have := fracL_le (t := t) h
    have : (Rat.divInt t l).den = (fracL t l).natAbs := by rw [e]; rfl
    omega
theorem den_ne (x : Rat) : (x.den : Int) ≠ 0 := by
  have := x.den_pos
  omega
theorem rat_add (x y : Rat) : Rat.divInt (x.num * y.den + y.num * x.den) (x.den * y.den) = x + y := by
  rw [← Rat.divInt_add_divInt _ _ (den_ne x) (den_ne y), Rat.num_divInt_den, Rat.num_divInt_den]
theorem rat_mul (x y : Rat) : Rat.divInt (x.num * y.num) (x.den * y.den) = x * y := by
  rw [← Rat.divInt_mul_divInt, Rat.num_divInt_den, Rat.num_divInt_den]
theorem rat_div (x y : Rat) : Rat.divInt (x.num * y.den) (x.den * y.num) = x / y := by
  rw [← Rat.divInt_mul_divInt, Rat.num_divInt_den, Rat.div_def, ← Rat.inv_divInt, Rat.num_divInt_den]
theorem mul_ne {a b : Int} (h1 : a ≠ 0) (h2 : b ≠ 0) : a * b ≠ 0 := fun z => (Int.mul_eq_zero.mp z).elim h1 h2
theorem natAbs_den (x : Rat) : (x.den : Int).natAbs = x.den := rfl
theorem lt_mul {a b c d : Nat} (h1 : a < 2 ^ b) (h2 : c < 2 ^ d) : a * c < 2 ^ (b + d) := by
  rw [Nat.pow_add]
  exact Nat.mul_lt_mul'' h1 h2
theorem Sz.add {x y : Rat} {b c : Nat} (h1 : Sz x b) (h2 : Sz y c) : Sz (x + y) (b + c + 1) := by
  rw [← rat_add]
  refine Sz.of (mul_ne (den_ne x) (den_ne y)) ?_ ?_
  · have a1 : (x.num * (y.den : Int)).natAbs < 2 ^ (b + c) := by rw [Int.natAbs_mul]; exact lt_mul h1.n h2.d
    have a2 : (y.num * (x.den : Int)).natAbs < 2 ^ (b + c) := by rw [Int.natAbs_mul, Nat.mul_comm]; exact lt_mul h1.d h2.n
    have a3 := Int.natAbs_add_le (x.num * (y.den : Int)) (y.num * (x.den : Int))
    rw [Nat.pow_succ]
    omega
  · rw [Int.natAbs_mul]
    exact Nat.lt_of_lt_of_le (lt_mul h1.d h2.d) (Nat.pow_le_pow_right (by decide) (by omega))
theorem Sz.mul {x y : Rat} {b c : Nat} (h1 : Sz x b) (h2 : Sz y c) : Sz (x * y) (b + c) := by
  rw [← rat_mul]
  refine Sz.of (mul_ne (den_ne x) (den_ne y)) ?_ ?_
  · rw [Int.natAbs_mul]
    exact lt_mul h1.n h2.n
  · rw [Int.natAbs_mul]
    exact lt_mul h1.d h2.d
theorem Sz.int {i : Int} {b : Nat} (h : i.natAbs < 2 ^ b) (hb : 1 ≤ b) : Sz (Rat.divInt i 1) b := Sz.of (by decide) h (Nat.lt_of_lt_of_le (show (1 : Int).natAbs < 2 ^ 1 by decide) (Nat.pow_le_pow_right (by decide) hb))
/-- an instance of Part that is x -/
def PartR (C : Addr) (H : Hp) (p : Addr) (x : Rat) : Prop := PartAt C H p x.num x.den
theorem PartR.ext {C : Addr} {H H' : Hp} {p : Addr} {x : Rat} (h : PartR C H p x) (e : Ext H H') : PartR C H' p x := by
  obtain ⟨d, h⟩ := h
  exact ⟨d, e _ _ h⟩
/-- a tuple that is x -/
def TupR (H : Hp) (p : Addr) (x : Rat) : Prop := H p = some (.tup [.int x.num, .int x.den])
theorem TupR.ext {H H' : Hp} {p : Addr} {x : Rat} (h : TupR H p x) (e : Ext H H') : TupR H' p x := e _ _ h
end Own

set_option Elab.async false
set_option maxRecDepth 100000
set_option maxHeartbeats 4000000
set_option linter.all false
/-! tables: each key once -/
namespace Own
open PySem PySem.Spec PyProof.Rows L2
section
variable {κ : Type} [DecidableEq κ]
/-- each key stands once -/
def Uniq (kvs : List (κ × V)) : Prop := (kvs.map (·.1)).Nodup
theorem Uniq.nil : Uniq ([] : List (κ × V)) := List.nodup_nil
theorem keys_put_old {kvs : List (κ × V)} {k : κ} {v : V} (h : (kvs.any fun kv => decide (kv.1 = k)) = true) : (putK kvs k v).map (·.1) = kvs.map (·.1) := by
  unfold putK
  rw [if_pos h, List.map_map]
  refine List.map_congr_left fun p hp => ?_
  show (if p.1 = k then (p.1, v) else p).1 = p.1
  split <;> rfl
theorem Uniq.put {kvs : List (κ × V)} (h : Uniq kvs) (k : κ) (v : V) : Uniq (putK kvs k v) := by
  cases e : valV kvs k with
  | none => exact nd_putK v h e
  | some x =>
    unfold Uniq
    rw [keys_put_old (by rw [valV_any, e]; rfl)]
    exact h
theorem Uniq.get : ∀ {kvs : List (κ × V)}, Uniq kvs → ∀ {p : κ × V}, p ∈ kvs → valV kvs p.1 = some p.2
  | [], _, _, hp => absurd hp List.not_mem_nil
  | q :: r, h, p, hp => by
    have h : (q.1 :: r.map (·.1)).Nodup := h
    rw [List.nodup_cons] at h
    rcases List.mem_cons.mp hp with e | e
    · rw [e]
      exact valV_pos rfl
    · rw [valV_neg fun z => h.1 (z ▸ List.mem_map.mpr ⟨p, e, rfl⟩)]
      exact Uniq.get (kvs := r) h.2 e
/-- what is so of each value -/
def AllV (P : V → Prop) (kvs : List (κ × V)) : Prop := ∀ p ∈ kvs, P p.2
theorem AllV.nil {P : V → Prop} : AllV P ([] : List (κ × V)) := fun _ h => absurd h List.not_mem_nil
theorem mem_put {kvs : List (κ × V)} {k : κ} {v : V} {p : κ × V} (h : p ∈ putK kvs k v) : p ∈ kvs ∨ p = (k, v) := by
  unfold putK at h
  split at h
  · obtain ⟨q, hq, e⟩ := List.mem_map.mp h
    by_cases z : q.1 = k
    · rw [if_pos z] at e
      exact .inr (by rw [← e, z])
    · rw [if_neg z] at e
      exact .inl (e ▸ hq)
  · rcases List.mem_append.mp h with h | h
    · exact .inl h
    · exact .inr (List.mem_singleton.mp h)
theorem AllV.put {P : V → Prop} {kvs : List (κ × V)} (h : AllV P kvs) (k : κ) {v : V} (hv : P v) : AllV P (putK kvs k v) := fun p hp => by
  rcases mem_put hp with e | e
  · exact h p e
  · rw [e]
    exact hv
theorem mem_of_val {kvs : List (κ × V)} {k : κ} {v : V} (h : valV kvs k = some v) : ∃ p ∈ kvs, p.1 = k ∧ p.2 = v := by
  unfold valV at h
  cases e : kvs.find? fun kv => decide (kv.1 = k) with
  | none => rw [e] at h; cases h
  | some p =>
    rw [e] at h
    exact ⟨p, List.mem_of_find?_eq_some e, of_decide_eq_true (List.find?_some (p := fun kv : κ × V => decide (kv.1 = k)) e), Option.some.inj h⟩
theorem AllV.val {P : V → Prop} {kvs : List (κ × V)} (h : AllV P kvs) {k : κ} {v : V} (e : valV kvs k = some v) : P v := by
  obtain ⟨p, hp, _, e2⟩ := mem_of_val e
  exact e2 ▸ h p hp
end
/-- an int -/
abbrev IsI (v : V) : Prop := ∃ i, v = V.int i
theorem pick5 {P : Int → Prop} {a b c d e k : Int} (h0 : 0 ≤ k) (h1 : k < 5) (ha : P a) (hb : P b) (hc : P c) (hd : P d) (he : P e) : ∃ v, atI [V.int a, .int b, .int c, .int d, .int e] k = some (.int v) ∧ P v := by
  rcases (by omega : k = 0 ∨ k = 1 ∨ k = 2 ∨ k = 3 ∨ k = 4) with rfl | rfl | rfl | rfl | rfl
  · exact ⟨a, rfl, ha⟩
  · exact ⟨b, rfl, hb⟩
  · exact ⟨c, rfl, hc⟩
  · exact ⟨d, rfl, hd⟩
  · exact ⟨e, rfl, he⟩
theorem pick2 {P : Int → Prop} {a b k : Int} (h0 : 0 ≤ k) (h1 : k < 2) (ha : P a) (hb : P b) : ∃ v, atI [V.int a, .int b] k = some (.int v) ∧ P v := by
  rcases (by omega : k = 0 ∨ k = 1) with rfl | rfl
  · exact ⟨a, rfl, ha⟩
  · exact ⟨b, rfl, hb⟩
theorem drawn6 {ds : List Int} {a b c d e f : Int} (h : Paired (fun d z => 0 ≤ d ∧ d < z) ds [a, b, c, d, e, f]) : ∃ u v w x y z : Int, ds = [u, v, w, x, y, z] ∧ (0 ≤ u ∧ u < a) ∧ (0 ≤ v ∧ v < b) ∧ (0 ≤ w ∧ w < c) ∧ (0 ≤ x ∧ x < d) ∧ (0 ≤ y ∧ y < e) ∧ (0 ≤ z ∧ z < f) := by
  cases h with
  | cons h1 h =>
    obtain ⟨v, w, x, y, z, rfl, h2⟩ := drawn5 h
    exact ⟨_, _, _, _, _, _, rfl, h1, h2⟩
/-- a name of the list -/
theorem str_at {zs : List Str} {k : Int} (h0 : 0 ≤ k) (h1 : k < zs.length) : ∃ z, z ∈ zs ∧ atI (zs.map V.str) k = some (V.str z) := by
  obtain ⟨v, e1, e2⟩ := atI_lt (xs := zs) h0 h1
  exact ⟨v, List.mem_of_getElem? e1, atI_map e2⟩
theorem Neat.bl (b : Bool) : Neat (.bool b) := by
  cases b
  · exact ⟨rfl, rfl, by decide, by decide +kernel⟩
  · exact ⟨rfl, rfl, by decide, by decide +kernel⟩
end Own
namespace Own
open PySem PySem.Spec PyProof.Rows L2
/-! a dict that is walked -/
/-- all cells but d stay -/
def Off (d : Addr) (H H' : Hp) : Prop := ∀ b o, H b = some o → b ≠ d → H' b = some o
theorem Off.upd {d : Addr} {H : Hp} {u : HO} : Off d H (L2.upd H d u) := fun b o hb hne => by
  rw [upd_ne hne]
  exact hb
theorem Off.ext {d : Addr} {H H' H2 : Hp} (h : Off d H H') (e : Ext H' H2) : Off d H H2 := fun b o hb hne => e _ _ (h b o hb hne)
theorem Ext.off {d : Addr} {H H' H2 : Hp} (e : Ext H H') (h : Off d H' H2) : Off d H H2 := fun b o hb hne => h b o (e _ _ hb) hne
theorem Off.trans {d : Addr} {H H' H2 : Hp} (h : Off d H H') (h2 : Off d H' H2) : Off d H H2 := fun b o hb hne => h2 b o (h b o hb hne) hne
/-- behind the walk all is as ahead of it, and what is new -/
theorem lock_out {d : Addr} {od : Obj} {H H' : Hp} {u : HO} (hd : H d = some u) (e : Ext (L2.upd H d (.frz od u)) H') : Ext H (L2.upd H' d u) := fun b o hb => by
  by_cases z : b = d
  · rw [z] at hb ⊢
    rw [upd_same, ← hb, hd]
  · rw [upd_ne z]
    exact e _ _ (by rw [upd_ne z]; exact hb)
theorem rd_frz {d : Addr} {od : Obj} {H H' : Hp} {u : HO} (e : Ext (L2.upd H d (.frz od u)) H') : H' d = some (.frz od u) := e _ _ upd_same
theorem rd_lock {d s : Addr} {od : Obj} {H H' : Hp} {u u2 : HO} (hd : H d = some u) (hs : H s = some u2) (e : Ext (L2.upd H d (.frz od u)) H') : Rd H' s u2 := by
  by_cases z : s = d
  · rw [z, hd] at hs
    rw [z, ← Option.some.inj hs]
    exact .inr ⟨od, rd_frz e⟩
  · exact .inl (e _ _ (by rw [upd_ne z]; exact hs))
theorem off_lock {d : Addr} {od : Obj} {H H' : Hp} {u : HO} (e : Ext (L2.upd H d (.frz od u)) H') : Off d H H' := Off.upd.ext e
theorem PartR.off {C d p : Addr} {H H' : Hp} {x : Rat} {kvs : List (Key × V)} (h : PartR C H p x) (hd : H d = some (.dK kvs)) (e : Off d H H') : PartR C H' p x := by
  obtain ⟨q, h⟩ := h
  exact ⟨q, e _ _ h fun z => by rw [z, hd] at h; cases h⟩
theorem TupR.off {d p : Addr} {H H' : Hp} {x : Rat} {kvs : List (Key × V)} (h : TupR H p x) (hd : H d = some (.dK kvs)) (e : Off d H H') : TupR H' p x := by
  unfold TupR at h ⊢
  exact e _ _ h fun z => by rw [z, hd] at h; cases h
theorem seqL_off {K : PySem.W.Frag} {H H' : Hp} {p d : Addr} {xs : List V} {kvs : List (Key × V)} (h : SqL K H p xs) (hd : H d = some (.dK kvs)) (e : Off d H H') : SqL K H' p xs := by
  have ne : ∀ {u}, H p = some u → (∀ k, u ≠ .dK k) → p ≠ d := fun {u} hu hk z => by
    rw [z, hd] at hu
    exact hk kvs (Option.some.inj hu).symm
  rcases h with (h | ⟨o, h⟩) | h
  · exact .inl (.inl (e _ _ h (ne h fun k z => by cases z)))
  · exact .inl (.inr ⟨o, e _ _ h (ne h fun k z => by cases z)⟩)
  · exact .inr h
end Own

set_option Elab.async false
set_option maxRecDepth 100000
set_option maxHeartbeats 4000000
set_option linter.all false
namespace My
open PySem L2 Own
def top (i : Nat) : Stmt := PySem.Challenge.pw_oneroof_k13_inner_links.main.body.getD i (.Pass ⟨0, 0, 0, 0⟩)
abbrev s_inner : Stmt := top 1
abbrev N_inner : List Str := ["link", "since"]
abbrev ps_inner : List Str := ["link", "since"]
theorem sc_inner : FnScope N_inner ps_inner (defScope s_inner) := ⟨rfl, rfl, rfl, by decide +kernel, rfl, by decide +kernel, by decide +kernel⟩
abbrev s_was_under : Stmt := top 2
abbrev N_was_under : List Str := ["house", "day", "since"]
abbrev ps_was_under : List Str := ["house", "day", "since"]
theorem sc_was_under : FnScope N_was_under ps_was_under (defScope s_was_under) := ⟨rfl, rfl, rfl, by decide +kernel, rfl, by decide +kernel, by decide +kernel⟩
abbrev s_l_cell : Stmt := top 4
abbrev N_l_cell : List Str := ["_law_script", "_law_k", "_law_base", "_law_one"]
abbrev ps_l_cell : List Str := ["_law_script", "_law_k"]
theorem sc_l_cell : FnScope N_l_cell ps_l_cell (defScope s_l_cell) := ⟨rfl, rfl, rfl, by decide +kernel, rfl, by decide +kernel, by decide +kernel⟩
abbrev s_l_digits : Stmt := top 5
abbrev N_l_digits : List Str := ["_law_script", "_law_k", "_law_sizes", "_law_cell_here", "_law_out", "_law_rest", "_law_size", "_law_one", "_law_j", "_law_two"]
abbrev ps_l_digits : List Str := ["_law_script", "_law_k", "_law_sizes"]
theorem sc_l_digits : FnScope N_l_digits ps_l_digits (defScope s_l_digits) := ⟨rfl, rfl, rfl, by decide +kernel, rfl, by decide +kernel, by decide +kernel⟩
abbrev s_l_names : Stmt := top 6
abbrev N_l_names : List Str := ["_law_script", "_law_k", "_law_many", "_law_found", "_law_letters", "_law_j", "_law_one", "_law_two", "_law_size", "_law_place", "_law_rest", "_law_name", "_law_i", "_law_tail"]
abbrev ps_l_names : List Str := ["_law_script", "_law_k", "_law_many"]
theorem sc_l_names : FnScope N_l_names ps_l_names (defScope s_l_names) := ⟨rfl, rfl, rfl, by decide +kernel, rfl, by decide +kernel, by decide +kernel⟩
abbrev s_l_same : Stmt := top 7
abbrev N_l_same : List Str := ["_law_one", "_law_other"]
abbrev ps_l_same : List Str := ["_law_one", "_law_other"]
theorem sc_l_same : FnScope N_l_same ps_l_same (defScope s_l_same) := ⟨rfl, rfl, rfl, by decide +kernel, rfl, by decide +kernel, by decide +kernel⟩
abbrev s_law : Stmt := top 8
abbrev N_law : List Str := ["_law_script", "_law_names_here", "_law_k", "_law_one", "_law_two", "_law_day", "_law_lean", "_law_other", "_law_many", "_law_under", "_law_j", "_law_giver", "_law_taker", "_law_link", "_law_due", "_law_handed"]
abbrev ps_law : List Str := ["_law_script"]
theorem sc_law : FnScope N_law ps_law (defScope s_law) := ⟨rfl, rfl, rfl, by decide +kernel, rfl, by decide +kernel, by decide +kernel⟩
structure Adr where
  f_inner : Addr
  d_inner : FuncData
  f_was_under : Addr
  d_was_under : FuncData
  f_l_cell : Addr
  d_l_cell : FuncData
  f_l_digits : Addr
  d_l_digits : FuncData
  f_l_names : Addr
  d_l_names : FuncData
  f_l_same : Addr
  d_l_same : FuncData
  f_law : Addr
  d_law : FuncData
/-- what the walk asks of the text -/
structure Tx (a : Adr) (K : PySem.W.Frag) (mg : Str → Option Value) (w : World) : Prop where
  F_inner : Fun K "inner" "inner" s_inner a.f_inner a.d_inner
  mg_inner : mg "inner" = some (.ref a.f_inner)
  F_was_under : Fun K "_was_under" "_was_under" s_was_under a.f_was_under a.d_was_under
  mg_was_under : mg "_was_under" = some (.ref a.f_was_under)
  F_l_cell : Fun K "_law_cell" "_law_cell" s_l_cell a.f_l_cell a.d_l_cell
  mg_l_cell : mg "_law_cell" = some (.ref a.f_l_cell)
  F_l_digits : Fun K "_law_digits" "_law_digits" s_l_digits a.f_l_digits a.d_l_digits
  mg_l_digits : mg "_law_digits" = some (.ref a.f_l_digits)
  F_l_names : Fun K "_law_names" "_law_names" s_l_names a.f_l_names a.d_l_names
  mg_l_names : mg "_law_names" = some (.ref a.f_l_names)
  F_l_same : Fun K "_law_same" "_law_same" s_l_same a.f_l_same a.d_l_same
  mg_l_same : mg "_law_same" = some (.ref a.f_l_same)
  F_law : Fun K "law" "law" s_law a.f_law a.d_law
  mg_law : mg "law" = some (.ref a.f_law)
  no_len : mg "len" = none
  no_range : mg "range" = none
  no_isinstance : mg "isinstance" = none
  no_repr : mg "repr" = none
  no_dict : mg "dict" = none
  no_sorted : mg "sorted" = none
  no_max : mg "max" = none
  no_min : mg "min" = none
section
variable {P : Program} {w : World} {K : PySem.W.Frag} {mg : Str → Option Value} {base : Heap} {a : Adr}
theorem cxK {CX : CXT} {N : List Str} {q : Str} {sc : Scope} {f : Addr} {cdv : Value} {A : Around} {outer : List Env} {s : Shared} {H : Hp} {E : XK} : (cxOf CX P w K mg base N q sc f cdv A outer s H E).K = K := rfl
theorem bnd_inner (T : Tx a K mg w) : Binds K a.d_inner ps_inner [] :=
  T.F_inner.binds (ps := ps_inner) fun _ _ _ _ _ _ us hl => match us, hl with | [_, _], _ => rfl
theorem bnd_was_under (T : Tx a K mg w) : Binds K a.d_was_under ps_was_under [] :=
  T.F_was_under.binds (ps := ps_was_under) fun _ _ _ _ _ _ us hl => match us, hl with | [_, _, _], _ => rfl
theorem bnd_l_cell (T : Tx a K mg w) : Binds K a.d_l_cell ps_l_cell [] :=
  T.F_l_cell.binds (ps := ps_l_cell) fun _ _ _ _ _ _ us hl => match us, hl with | [_, _], _ => rfl
theorem bnd_l_digits (T : Tx a K mg w) : Binds K a.d_l_digits ps_l_digits [] :=
  T.F_l_digits.binds (ps := ps_l_digits) fun _ _ _ _ _ _ us hl => match us, hl with | [_, _, _], _ => rfl
theorem bnd_l_names (T : Tx a K mg w) : Binds K a.d_l_names ps_l_names [] :=
  T.F_l_names.binds (ps := ps_l_names) fun _ _ _ _ _ _ us hl => match us, hl with | [_, _, _], _ => rfl
theorem bnd_l_same (T : Tx a K mg w) : Binds K a.d_l_same ps_l_same [] :=
  T.F_l_same.binds (ps := ps_l_same) fun _ _ _ _ _ _ us hl => match us, hl with | [_, _], _ => rfl
theorem bnd_law (T : Tx a K mg w) : Binds K a.d_law ps_law [] :=
  T.F_law.binds (ps := ps_law) fun _ _ _ _ _ _ us hl => match us, hl with | [_], _ => rfl
/-! ### _law_cell -/
def spCell (K : PySem.W.Frag) : Sp := fun vs H Q _ => ∃ (l : Addr) (ns : List Int) (k : Int), vs = [.ref l, .int k] ∧ SqL K H l (ns.map V.int) ∧ ns.length ≤ 63 ∧ 0 ≤ k ∧ k < 1000000 ∧ ∀ c : Int, Q (.int c) H
theorem ok_l_cell (T : Tx a K mg w) : FnOk P w K mg base CX0 1 a.f_l_cell a.d_l_cell ps_l_cell (spCell K) := by
  refine T.F_l_cell.ok sc_l_cell (fun vs H Q E h => ?_) (fun cdv A outer s H vs Q E hr h => ?_)
  · obtain ⟨l, ns, k, rfl, _⟩ := h
    rfl
  · obtain ⟨l, ns, k, rfl, hs, hn, h0, h1, q⟩ := h
    refine ⟨_, (pss_cons (ps_if (pt_cmpR op_lt (pv 1) (pe_callB call_len_seq (by rfl) T.no_len (by decide +kernel) (pa_cons (pv 0) pa_nil)) (nomark _)) (pss_one (ps_ret (pe_ix ix_list (pv 0) (pv 1) (fun _ _ => rfl)))) pss_nil)
      (pss_cons (ps_set (i := 2) sc_l_cell.nd rfl (by first | exact Or.inl rfl | exact Or.inr rfl) pe_int)
      (pss_cons (ps_for PassesOwn.never rfl (pi_list (pv 0)) (pg_name (i := 3) sc_l_cell.nd rfl (by first | exact Or.inl rfl | exact Or.inr rfl))
        (pss_one (ps_set (i := 2) sc_l_cell.nd rfl (by first | exact Or.inl rfl | exact Or.inr rfl) (pe_op op_mod (pe_op op_add (pe_op op_mulW (pv 2) pe_int) (pv 3)) pe_int))))
      (pss_one (ps_ret (pe_op op_mod (pe_op op_mulW (pe_op op_mulW (pe_op op_add (pv 2) pe_int) (pe_op op_add (pv 1) pe_int)) pe_int) pe_int)))))), ?_⟩
    show tSeq _ _ _ [some (V.ref l), some (V.int k), none, none] H
    simp only [tSeq, tIfS, tOp, tVar, tC, tCB, tCons, tNil, rI0, rI, tTest, tRet, tRetN, tNext, tAsg, gName, gNil, gCons, gTup, gUnl, tLst, tTup, tCall, tMeth, tMake, tUn, rU, tAndV, tOrV, tNotV, tAnd, tOr, tNot, tIf, tB, tFld, tDrop, tPar, tNever, tBM, rAppend, tSl, tPart, tNoPart, tM1, tyLst, List.getElem?_cons_zero, List.getElem?_cons_succ, Option.some.injEq, exists_eq_left', exists_eq_left, V.int.injEq, V.bl.injEq, V.str.injEq, V.ref.injEq, List.set_cons_zero, List.set_cons_succ, exists_and_left, exists_and_right, and_assoc, List.cons.injEq, and_true, true_and, List.cons_append, List.nil_append, List.append_nil, List.length_cons, List.length_nil, exists_eq', exists_eq, exists_const, exists_eq_right, exists_eq_right', cxK, Cx.nox, Cx.wish]
    refine ⟨_, .inl hs, ?_⟩
    rw [List.length_map]
    refine ite2 (fun hk => ?_) (fun hk => ?_)
    · have hk := of_decide_eq_true hk
      simp only [rIxL, tSeq, tIfS, tOp, tVar, tC, tCB, tCons, tNil, rI0, rI, tTest, tRet, tRetN, tNext, tAsg, gName, gNil, gCons, gTup, gUnl, tLst, tTup, tCall, tMeth, tMake, tUn, rU, tAndV, tOrV, tNotV, tAnd, tOr, tNot, tIf, tB, tFld, tDrop, tPar, tNever, tBM, rAppend, tSl, tPart, tNoPart, tM1, tyLst, List.getElem?_cons_zero, List.getElem?_cons_succ, Option.some.injEq, exists_eq_left', exists_eq_left, V.int.injEq, V.bl.injEq, V.str.injEq, V.ref.injEq, List.set_cons_zero, List.set_cons_succ, exists_and_left, exists_and_right, and_assoc, List.cons.injEq, and_true, true_and, List.cons_append, List.nil_append, List.append_nil, List.length_cons, List.length_nil, exists_eq', exists_eq, exists_const, exists_eq_right, exists_eq_right', cxK, Cx.nox, Cx.wish]
      obtain ⟨v, hv, e⟩ := atI_lt (xs := ns) h0 hk
      exact ⟨_, hs, .int v, atI_map e, q v⟩
    · refine for_listI (a := l) (xs := ns.map V.int) rfl hs (fun i σ H' => H' = H ∧ ∃ (b : Int) (v : Option V), σ = [some (V.ref l), some (V.int k), some (V.int b), v] ∧ b.natAbs < 2 ^ 62) ⟨rfl, 17, none, rfl, by decide⟩ (fun i σ H' _ hh => hh.1 ▸ hs) ?_ ?_
      · rintro i x σ H' hx ⟨rfl, b, v, rfl, hb⟩
        obtain ⟨z, rfl⟩ : ∃ z, x = V.int z := by
          obtain ⟨z, _, e⟩ := List.mem_map.mp (List.mem_of_getElem? hx)
          exact ⟨z, e.symm⟩
        simp only [tSeq, tIfS, tOp, tVar, tC, tCB, tCons, tNil, rI0, rI, tTest, tRet, tRetN, tNext, tAsg, gName, gNil, gCons, gTup, gUnl, tLst, tTup, tCall, tMeth, tMake, tUn, rU, tAndV, tOrV, tNotV, tAnd, tOr, tNot, tIf, tB, tFld, tDrop, tPar, tNever, tBM, rAppend, tSl, tPart, tNoPart, tM1, tyLst, List.getElem?_cons_zero, List.getElem?_cons_succ, Option.some.injEq, exists_eq_left', exists_eq_left, V.int.injEq, V.bl.injEq, V.str.injEq, V.ref.injEq, List.set_cons_zero, List.set_cons_succ, exists_and_left, exists_and_right, and_assoc, List.cons.injEq, and_true, true_and, List.cons_append, List.nil_append, List.append_nil, List.length_cons, List.length_nil, exists_eq', exists_eq, exists_const, exists_eq_right, exists_eq_right', cxK, Cx.nox, Cx.wish]
        exact ⟨mulW64 (by omega) (by decide), by decide, by omega⟩
      · rintro σ H' ⟨rfl, b, v, rfl, hb⟩
        simp only [tSeq, tIfS, tOp, tVar, tC, tCB, tCons, tNil, rI0, rI, tTest, tRet, tRetN, tNext, tAsg, gName, gNil, gCons, gTup, gUnl, tLst, tTup, tCall, tMeth, tMake, tUn, rU, tAndV, tOrV, tNotV, tAnd, tOr, tNot, tIf, tB, tFld, tDrop, tPar, tNever, tBM, rAppend, tSl, tPart, tNoPart, tM1, tyLst, List.getElem?_cons_zero, List.getElem?_cons_succ, Option.some.injEq, exists_eq_left', exists_eq_left, V.int.injEq, V.bl.injEq, V.str.injEq, V.ref.injEq, List.set_cons_zero, List.set_cons_succ, exists_and_left, exists_and_right, and_assoc, List.cons.injEq, and_true, true_and, List.cons_append, List.nil_append, List.append_nil, List.length_cons, List.length_nil, exists_eq', exists_eq, exists_const, exists_eq_right, exists_eq_right', cxK, Cx.nox, Cx.wish]
        refine ⟨mulW64 (by omega) (by omega), mulWn 128 64 ?_ (by decide) (by decide) (by decide) (by decide), by decide, q _⟩
        exact mul_lt 64 64 (by omega) (by omega)

/-! ### _law_digits -/
def spDigits (K : PySem.W.Frag) : Sp := fun vs H Q _ => ∃ (l z : Addr) (ns szs : List Int) (k : Int), vs = [.ref l, .int k, .ref z] ∧ SqL K H l (ns.map V.int) ∧ ns.length ≤ 63 ∧ 0 ≤ k ∧ k < 1000000 ∧ SqL K H z (szs.map V.int) ∧ szs.length ≤ 64 ∧ (∀ y ∈ szs, 0 < y ∧ y < 1073741824) ∧
  ∀ (ds : List Int) (p : Addr), Drawn ds szs → H p = none → Q (.ref p) (upd H p (.lst (ds.map V.int)))
theorem ok_l_digits (T : Tx a K mg w) : FnOk P w K mg base CX0 2 a.f_l_digits a.d_l_digits ps_l_digits (spDigits K) := by
  refine T.F_l_digits.ok sc_l_digits (fun vs H Q E h => ?_) (fun cdv A outer s H vs Q E hr h => ?_)
  · obtain ⟨l, z, ns, szs, k, rfl, _⟩ := h
    rfl
  · obtain ⟨l, z, ns, szs, k, rfl, hs, hn, h0, h1, hz, hzl, hzb, q⟩ := h
    have G_l_cell := ok_l_cell (P := P) (w := w) (base := base) T
    have B_l_cell := bnd_l_cell T
    have hr_l_cell : Room 1 _ := hr
    refine ⟨_, (pss_cons (ps_set (i := 3) sc_l_digits.nd rfl (by first | exact Or.inl rfl | exact Or.inr rfl) (pe_call G_l_cell hr_l_cell (by rfl) T.mg_l_cell T.F_l_cell.kp B_l_cell .nil pass0 (pa_cons (pv 0) (pa_cons (pv 1) pa_nil))))
      (pss_cons (ps_set (i := 4) sc_l_digits.nd rfl (by first | exact Or.inl rfl | exact Or.inr rfl) (pe_lst pa_nil))
      (pss_cons (ps_if (pt_cmpR op_ge (pv 3) (pe_op op_pow pe_int pe_int) (nomark _)) (pss_cons (ps_set (i := 5) sc_l_digits.nd rfl (by first | exact Or.inl rfl | exact Or.inr rfl) (pe_op op_sub (pv 3) (pe_op op_pow pe_int pe_int)))
        (pss_cons (ps_for PassesOwn.never rfl (pi_list (pv 2)) (pg_name (i := 6) sc_l_digits.nd rfl (by first | exact Or.inl rfl | exact Or.inr rfl))
          (pss_cons (ps_expr (pe_bm PySem.F.plainAttrs_list PySem.F.slot_list_append PySem.F.type_list_append mt_append (pv 4) (pa_cons (pe_op op_mod (pv 5) (pv 6)) pa_nil)))
          (pss_one (ps_set (i := 5) sc_l_digits.nd rfl (by first | exact Or.inl rfl | exact Or.inr rfl) (pe_op op_fdivA (pv 5) (pv 6))))))
        (pss_one (ps_ret (pv 4))))) pss_nil)
      (pss_cons (ps_set (i := 7) sc_l_digits.nd rfl (by first | exact Or.inl rfl | exact Or.inr rfl) (pe_op op_mod (pv 3) pe_int))
      (pss_cons (ps_for PassesOwn.never rfl (pi_range1 rfl T.no_range (pa_cons (pe_callB call_len_seq (by rfl) T.no_len (by decide +kernel) (pa_cons (pv 2) pa_nil)) pa_nil)) (pg_name (i := 8) sc_l_digits.nd rfl (by first | exact Or.inl rfl | exact Or.inr rfl))
        (pss_cons (ps_set (i := 7) sc_l_digits.nd rfl (by first | exact Or.inl rfl | exact Or.inr rfl) (pe_op op_mod (pe_op op_add (pe_op op_mulW (pv 7) pe_int) (pe_op op_mulW pe_int (pe_op op_add (pv 8) pe_int))) pe_int))
        (pss_cons (ps_set (i := 9) sc_l_digits.nd rfl (by first | exact Or.inl rfl | exact Or.inr rfl) (pe_op op_mod (pe_op op_add (pe_op op_add (pe_op op_mulW (pv 7) (pv 7)) (pe_op op_mulW pe_int (pv 7))) (pv 8)) pe_int))
        (pss_one (ps_expr (pe_bm PySem.F.plainAttrs_list PySem.F.slot_list_append PySem.F.type_list_append mt_append (pv 4) (pa_cons (pe_op op_mod (pe_op op_fdivA (pv 9) pe_int) (pe_ix ix_list (pv 2) (pv 8) (fun _ _ => rfl))) pa_nil)))))))
      (pss_one (ps_ret (pv 4)))))))), ?_⟩
    show tSeq _ _ _ [some (V.ref l), some (V.int k), some (V.ref z), none, none, none, none, none, none, none] H
    simp only [tSeq, tIfS, tOp, tVar, tC, tCB, tCons, tNil, rI0, rI, tTest, tRet, tRetN, tNext, tAsg, gName, gNil, gCons, gTup, gUnl, tLst, tTup, tCall, tMeth, tMake, tUn, rU, tAndV, tOrV, tNotV, tAnd, tOr, tNot, tIf, tB, tFld, tDrop, tPar, tNever, tBM, rAppend, tSl, tPart, tNoPart, tM1, tyLst, List.getElem?_cons_zero, List.getElem?_cons_succ, Option.some.injEq, exists_eq_left', exists_eq_left, V.int.injEq, V.bl.injEq, V.str.injEq, V.ref.injEq, List.set_cons_zero, List.set_cons_succ, exists_and_left, exists_and_right, and_assoc, List.cons.injEq, and_true, true_and, List.cons_append, List.nil_append, List.append_nil, List.length_cons, List.length_nil, exists_eq', exists_eq, exists_const, exists_eq_right, exists_eq_right', cxK, Cx.nox, Cx.wish]
    refine ⟨l, ns, k, rfl, hs, hn, h0, h1, fun c => ?_⟩
    refine ⟨by decide, fun p hp => ?_⟩
    have key : ∀ (y : Int) (ds : List Int) (i : Nat), szs[i]? = some y → Drawn ds (szs.take i) → ∀ d : Int, 0 ≤ d → d < y → Drawn (ds ++ [d]) (szs.take (i + 1)) := fun y ds i hy hd d h1 h2 => by
      rw [take_snoc hy]
      exact PySem.Paired.snoc hd ⟨h1, h2⟩
    have dl : ∀ {ds : List Int} {i : Nat}, Drawn ds (szs.take i) → ds.length < sizeLine := fun {ds i} hd => by
      have h1 : ds.length = (szs.take i).length := Paired.length hd
      rw [List.length_take] at h1
      have h2 : sizeLine = 16777216 := rfl
      omega
    have hpz : ∀ u, SqL K (upd H p u) z (szs.map V.int) := fun u => seqL hz (Ext.upd hp)
    simp only [tSeq, tIfS, tOp, tVar, tC, tCB, tCons, tNil, rI0, rI, tTest, tRet, tRetN, tNext, tAsg, gName, gNil, gCons, gTup, gUnl, tLst, tTup, tCall, tMeth, tMake, tUn, rU, tAndV, tOrV, tNotV, tAnd, tOr, tNot, tIf, tB, tFld, tDrop, tPar, tNever, tBM, rAppend, tSl, tPart, tNoPart, tM1, tyLst, List.getElem?_cons_zero, List.getElem?_cons_succ, Option.some.injEq, exists_eq_left', exists_eq_left, V.int.injEq, V.bl.injEq, V.str.injEq, V.ref.injEq, List.set_cons_zero, List.set_cons_succ, exists_and_left, exists_and_right, and_assoc, List.cons.injEq, and_true, true_and, List.cons_append, List.nil_append, List.append_nil, List.length_cons, List.length_nil, exists_eq', exists_eq, exists_const, exists_eq_right, exists_eq_right', cxK, Cx.nox, Cx.wish]
    refine ⟨⟨by decide, by decide, by decide⟩, ite2 (fun hb => ?_) (fun hb => ?_)⟩
    · refine ⟨⟨by decide, by decide, by decide⟩, ?_⟩
      refine for_listI (a := z) (xs := szs.map V.int) rfl (hpz _) (fun i σ H' => ∃ (r : Int) (v : Option V) (ds : List Int), σ = [some (V.ref l), some (V.int k), some (V.ref z), some (V.int c), some (V.ref p), some (V.int r), v, none, none, none] ∧ H' = upd H p (.lst (ds.map V.int)) ∧ Drawn ds (szs.take i))
        ⟨_, none, [], rfl, rfl, .nil⟩ (fun i σ H' _ ⟨_, _, _, _, hh, _⟩ => hh ▸ hpz _) ?_ ?_
      · rintro i x σ H' hx ⟨r, v, ds, rfl, rfl, hd⟩
        obtain ⟨y, hy, rfl⟩ : ∃ y, szs[i]? = some y ∧ x = V.int y := by
          rw [List.getElem?_map] at hx
          cases e : szs[i]? with
          | none => rw [e] at hx; cases hx
          | some y => rw [e] at hx; exact ⟨y, rfl, (Option.some.inj hx).symm⟩
        have hyb := hzb y (List.mem_of_getElem? hy)
        simp only [tSeq, tIfS, tOp, tVar, tC, tCB, tCons, tNil, rI0, rI, tTest, tRet, tRetN, tNext, tAsg, gName, gNil, gCons, gTup, gUnl, tLst, tTup, tCall, tMeth, tMake, tUn, rU, tAndV, tOrV, tNotV, tAnd, tOr, tNot, tIf, tB, tFld, tDrop, tPar, tNever, tBM, rAppend, tSl, tPart, tNoPart, tM1, tyLst, List.getElem?_cons_zero, List.getElem?_cons_succ, Option.some.injEq, exists_eq_left', exists_eq_left, V.int.injEq, V.bl.injEq, V.str.injEq, V.ref.injEq, List.set_cons_zero, List.set_cons_succ, exists_and_left, exists_and_right, and_assoc, List.cons.injEq, and_true, true_and, List.cons_append, List.nil_append, List.append_nil, List.length_cons, List.length_nil, exists_eq', exists_eq, exists_const, exists_eq_right, exists_eq_right', cxK, Cx.nox, Cx.wish]
        refine ⟨tyLst upd_same, hyb.1, _, upd_same, by rw [List.length_map]; exact dl hd, divA_of 64 (by omega) (by omega) (by decide) (by decide), ds ++ [r % y], ?_, key y ds i hy hd _ (Int.emod_nonneg _ (by omega)) (Int.emod_lt_of_pos _ hyb.1)⟩
        rw [upd_upd, List.map_append]
        rfl
      · rintro σ H' ⟨r, v, ds, rfl, rfl, hd⟩
        simp only [tSeq, tIfS, tOp, tVar, tC, tCB, tCons, tNil, rI0, rI, tTest, tRet, tRetN, tNext, tAsg, gName, gNil, gCons, gTup, gUnl, tLst, tTup, tCall, tMeth, tMake, tUn, rU, tAndV, tOrV, tNotV, tAnd, tOr, tNot, tIf, tB, tFld, tDrop, tPar, tNever, tBM, rAppend, tSl, tPart, tNoPart, tM1, tyLst, List.getElem?_cons_zero, List.getElem?_cons_succ, Option.some.injEq, exists_eq_left', exists_eq_left, V.int.injEq, V.bl.injEq, V.str.injEq, V.ref.injEq, List.set_cons_zero, List.set_cons_succ, exists_and_left, exists_and_right, and_assoc, List.cons.injEq, and_true, true_and, List.cons_append, List.nil_append, List.append_nil, List.length_cons, List.length_nil, exists_eq', exists_eq, exists_const, exists_eq_right, exists_eq_right', cxK, Cx.nox, Cx.wish]
        rw [List.length_map, List.take_length] at hd
        exact q ds p hd hp
    · refine ⟨by decide, ?_⟩
      refine for_rangeI (n := (szs.length : Int)) (fun R r => ?_) (by omega) (by omega) (fun i σ H' => ∃ (o : Int) (v u : Option V) (ds : List Int), σ = [some (V.ref l), some (V.int k), some (V.ref z), some (V.int c), some (V.ref p), none, none, some (V.int o), v, u] ∧ o.natAbs < 2 ^ 31 ∧ H' = upd H p (.lst (ds.map V.int)) ∧ Drawn ds (szs.take i))
        ⟨_, none, none, [], rfl, by omega, rfl, .nil⟩ ?_ ?_
      · simp only [tSeq, tIfS, tOp, tVar, tC, tCB, tCons, tNil, rI0, rI, tTest, tRet, tRetN, tNext, tAsg, gName, gNil, gCons, gTup, gUnl, tLst, tTup, tCall, tMeth, tMake, tUn, rU, tAndV, tOrV, tNotV, tAnd, tOr, tNot, tIf, tB, tFld, tDrop, tPar, tNever, tBM, rAppend, tSl, tPart, tNoPart, tM1, tyLst, List.getElem?_cons_zero, List.getElem?_cons_succ, Option.some.injEq, exists_eq_left', exists_eq_left, V.int.injEq, V.bl.injEq, V.str.injEq, V.ref.injEq, List.set_cons_zero, List.set_cons_succ, exists_and_left, exists_and_right, and_assoc, List.cons.injEq, and_true, true_and, List.cons_append, List.nil_append, List.append_nil, List.length_cons, List.length_nil, exists_eq', exists_eq, exists_const, exists_eq_right, exists_eq_right', cxK, Cx.nox, Cx.wish]
        refine ⟨_, .inl (hpz _), ?_⟩
        rw [List.length_map]
        exact r
      · rintro i σ H' hi ⟨o, v, u, ds, rfl, ho, rfl, hd⟩
        rw [Int.toNat_natCast] at hi
        have hy : szs[i]? = some szs[i] := List.getElem?_eq_getElem hi
        have hyb := hzb szs[i] (List.getElem_mem hi)
        have hat : atI (szs.map V.int) (0 + (i : Int)) = some (V.int szs[i]) := by
          rw [Int.zero_add]
          exact atI_map (Own.atI_nat hy)
        simp only [rIxL, tSeq, tIfS, tOp, tVar, tC, tCB, tCons, tNil, rI0, rI, tTest, tRet, tRetN, tNext, tAsg, gName, gNil, gCons, gTup, gUnl, tLst, tTup, tCall, tMeth, tMake, tUn, rU, tAndV, tOrV, tNotV, tAnd, tOr, tNot, tIf, tB, tFld, tDrop, tPar, tNever, tBM, rAppend, tSl, tPart, tNoPart, tM1, tyLst, List.getElem?_cons_zero, List.getElem?_cons_succ, Option.some.injEq, exists_eq_left', exists_eq_left, V.int.injEq, V.bl.injEq, V.str.injEq, V.ref.injEq, List.set_cons_zero, List.set_cons_succ, exists_and_left, exists_and_right, and_assoc, List.cons.injEq, and_true, true_and, List.cons_append, List.nil_append, List.append_nil, List.length_cons, List.length_nil, exists_eq', exists_eq, exists_const, exists_eq_right, exists_eq_right', cxK, Cx.nox, Cx.wish]
        refine ⟨mulW64 (by omega) (by decide), mulW64 (by decide) (by omega), by decide, mulW64 (by omega) (by omega), mulW64 (by decide) (by omega), by decide, tyLst upd_same, divA_of 64 (by decide) (by decide) (by decide) (by decide), _, hpz _, _, hat, ?_⟩
        refine ⟨_, rfl, hyb.1, _, upd_same, by rw [List.length_map]; exact dl hd, by omega, ?_⟩
        generalize hX : Int.fdiv _ 11 = x
        refine ⟨ds ++ [x % szs[i]], ?_, key _ ds i hy hd _ (Int.emod_nonneg _ (by omega)) (Int.emod_lt_of_pos _ hyb.1)⟩
        rw [upd_upd, List.map_append]
        rfl
      · rintro σ H' ⟨o, v, u, ds, rfl, ho, rfl, hd⟩
        simp only [tSeq, tIfS, tOp, tVar, tC, tCB, tCons, tNil, rI0, rI, tTest, tRet, tRetN, tNext, tAsg, gName, gNil, gCons, gTup, gUnl, tLst, tTup, tCall, tMeth, tMake, tUn, rU, tAndV, tOrV, tNotV, tAnd, tOr, tNot, tIf, tB, tFld, tDrop, tPar, tNever, tBM, rAppend, tSl, tPart, tNoPart, tM1, tyLst, List.getElem?_cons_zero, List.getElem?_cons_succ, Option.some.injEq, exists_eq_left', exists_eq_left, V.int.injEq, V.bl.injEq, V.str.injEq, V.ref.injEq, List.set_cons_zero, List.set_cons_succ, exists_and_left, exists_and_right, and_assoc, List.cons.injEq, and_true, true_and, List.cons_append, List.nil_append, List.append_nil, List.length_cons, List.length_nil, exists_eq', exists_eq, exists_const, exists_eq_right, exists_eq_right', cxK, Cx.nox, Cx.wish]
        rw [Int.toNat_natCast, List.take_length] at hd
        exact q ds p hd hp

/-! ### _law_names -/
/-- names as a world may have them -/
structure Good (ns : List Str) : Prop where
  each : ∀ n ∈ ns, ∃ k, Let n k ∧ 1 ≤ k ∧ k ≤ 6
  nd : ns.Nodup
def spNames (K : PySem.W.Frag) : Sp := fun vs H Q _ => ∃ (l : Addr) (ns : List Int) (k m : Int), vs = [.ref l, .int k, .int m] ∧ SqL K H l (ns.map V.int) ∧ ns.length ≤ 63 ∧ 0 ≤ k ∧ k < 900000 ∧ 0 ≤ m ∧ m ≤ 12 ∧
  ∀ (zs : List Str) (p : Addr) H', Good zs → (zs.length : Int) = m → Ext H H' → H' p = some (.lst (zs.map V.str)) → H p = none → Q (.ref p) H'
theorem ok_l_names (T : Tx a K mg w) : FnOk P w K mg base CX0 3 a.f_l_names a.d_l_names ps_l_names (spNames K) := by
  refine T.F_l_names.ok sc_l_names (fun vs H Q E h => ?_) (fun cdv A outer s H vs Q E hr h => ?_)
  · obtain ⟨l, ns, k, m, rfl, _⟩ := h
    rfl
  · obtain ⟨l, ns, k, m, rfl, hs, hn, h0, h1, m0, m1, q⟩ := h
    have G_l_digits := ok_l_digits (P := P) (w := w) (base := base) T
    have B_l_digits := bnd_l_digits T
    have hr_l_digits : Room 2 _ := hr.mono (by decide)
    refine ⟨_, (pss_cons (ps_asg (pe_tup (pa_cons (pe_lst pa_nil) (pa_cons pe_str pa_nil))) (pg_tup rfl (pgs_cons (pg_name (i := 3) sc_l_names.nd rfl (by first | exact Or.inl rfl | exact Or.inr rfl)) (pgs_cons (pg_name (i := 4) sc_l_names.nd rfl (by first | exact Or.inl rfl | exact Or.inr rfl)) pgs_nil)) (by rfl)))
      (pss_cons (ps_for PassesOwn.never rfl (pi_range1 rfl T.no_range (pa_cons (pv 2) pa_nil)) (pg_name (i := 5) sc_l_names.nd rfl (by first | exact Or.inl rfl | exact Or.inr rfl))
        (pss_cons (ps_asg (pe_call G_l_digits hr_l_digits (by rfl) T.mg_l_digits T.F_l_digits.kp B_l_digits .nil pass0 (pa_cons (pv 0) (pa_cons (pe_op op_add (pv 1) (pe_op op_mod (pv 5) pe_int)) (pa_cons (pe_lst (pa_cons pe_int (pa_cons pe_int (pa_cons pe_int (pa_cons pe_int pa_nil))))) pa_nil)))) (pg_unl rfl (pgs_cons (pg_name (i := 6) sc_l_names.nd rfl (by first | exact Or.inl rfl | exact Or.inr rfl)) (pgs_cons (pg_name (i := 7) sc_l_names.nd rfl (by first | exact Or.inl rfl | exact Or.inr rfl)) (pgs_cons (pg_name (i := 8) sc_l_names.nd rfl (by first | exact Or.inl rfl | exact Or.inr rfl)) (pgs_cons (pg_name (i := 9) sc_l_names.nd rfl (by first | exact Or.inl rfl | exact Or.inr rfl)) pgs_nil)))) (by rfl)))
        (pss_cons (ps_set (i := 10) sc_l_names.nd rfl (by first | exact Or.inl rfl | exact Or.inr rfl) (pe_joinN pe_str (pe_lc (own := [("_law_i", 12)]) rfl sc_l_names.nd (pi_range1 rfl T.no_range (pa_cons (pv 8) pa_nil)) (blkOk_by (own := [("_law_i", 12)]) (N := N_l_names) (sc := defScope s_l_names) (by decide +kernel)) (fun _ _ _ _ _ => (pg_name (i := 12) sc_l_names.nd rfl (Or.inl rfl))) (fun _ _ _ _ _ => pts_nil) (fun _ _ _ _ _ => (pe_ix ix_str (pv 4) (pe_op op_mod (pe_op op_add (pe_op op_add (pv 6) (pe_op op_mulW (pv 12) (pv 7))) (pe_op op_mulW pe_int (pv 5))) pe_int) (fun _ _ => rfl))))))
        (pss_cons (ps_set (i := 11) sc_l_names.nd rfl (by first | exact Or.inl rfl | exact Or.inr rfl) (pe_op op_add_str (pe_op op_add_str (pe_slice sl_str (pv 10) po_none (po_some (pv 9))) (pe_ix ix_str (pv 4) (pe_op op_mod (pe_op op_add (pe_op op_add (pv 6) (pe_op op_mulW pe_int (pv 5))) pe_int) pe_int) (fun _ _ => rfl))) (pe_slice sl_str (pv 10) (po_some (pv 9)) po_none)))
        (pss_cons (ps_if (pt_cmpR op_in_seq (pv 11) (pv 3) (by rfl)) (pss_one (ps_set (i := 11) sc_l_names.nd rfl (by first | exact Or.inl rfl | exact Or.inr rfl) (pe_ix ix_list (pe_lc (own := [("_law_tail", 13)]) rfl sc_l_names.nd (pi_str pe_str) (blkOk_by (own := [("_law_tail", 13)]) (N := N_l_names) (sc := defScope s_l_names) (by decide +kernel)) (fun _ _ _ _ _ => (pg_name (i := 13) sc_l_names.nd rfl (Or.inl rfl))) (fun _ _ _ _ _ => (pts_one (pt_cmpR (notInK (K := K) rfl) (pe_op op_add_str (pe_op op_add_str pe_str (pe_ix ix_str (pv 4) (pv 5) (fun _ _ => rfl))) (pv 13)) (pv 3) (by rfl)))) (fun _ _ _ _ _ => (pe_op op_add_str (pe_op op_add_str pe_str (pe_ix ix_str (pv 4) (pv 5) (fun _ _ => rfl))) (pv 13)))) pe_int (fun _ _ => rfl)))) pss_nil)
        (pss_one (ps_expr (pe_bm PySem.F.plainAttrs_list PySem.F.slot_list_append PySem.F.type_list_append mt_append (pv 3) (pa_cons (pv 11) pa_nil)))))))))
      (pss_one (ps_ret (pv 3))))), ?_⟩
    show tSeq _ _ _ (L2.start N_l_names _) H
    refine seq_i fun N hN => ?_
    simp only [tSeq, tIfS, tOp, tVar, tC, tCB, tCons, tNil, rI0, rI, tTest, tRet, tRetN, tNext, tAsg, gName, gNil, gCons, gTup, gUnl, tLst, tTup, tCall, tMeth, tMake, tUn, rU, tAndV, tOrV, tNotV, tAnd, tOr, tNot, tIf, tB, tFld, tDrop, tPar, tNever, tBM, rAppend, tSl, tPart, tNoPart, tM1, tyLst, List.getElem?_cons_zero, List.getElem?_cons_succ, Option.some.injEq, exists_eq_left', exists_eq_left, V.int.injEq, V.bl.injEq, V.str.injEq, V.ref.injEq, List.set_cons_zero, List.set_cons_succ, exists_and_left, exists_and_right, and_assoc, List.cons.injEq, and_true, true_and, List.cons_append, List.nil_append, List.append_nil, List.length_cons, List.length_nil, exists_eq', exists_eq, exists_const, exists_eq_right, exists_eq_right', cxK, Cx.nox, Cx.wish]
    refine ⟨by decide, fun pf hpf => ⟨by decide, fun pt hpt => ?_⟩⟩
    generalize hH1 : upd H pf _ = H1 at hpt ⊢
    obtain ⟨e1, f1⟩ := alloc hpf hH1
    generalize hH2 : upd H1 pt _ = H2
    obtain ⟨e2, f2⟩ := alloc hpt hH2
    refine ⟨_, ofT f2, rfl, _, _, rfl, _, _, rfl, rfl, hN _ _ ?_⟩
    clear hN N
    have eH2 : Ext H H2 := e1.trans e2
    have fp2 : H2 pf = some (.lst []) := e2 _ _ f1
    clear hH1 hH2 f2 hpt e1 e2 f1
    refine seq_i fun N hN => ?_
    refine for_rangeI (n := m) (fun R r => ⟨_, rfl, r⟩) m0 (by omega) (fun j σ H' => (∃ v5 v6 v7 v8 v9 v10 v11 v12 v13, σ = [some (V.ref l), some (V.int k), some (V.int m), some (V.ref pf), some (V.str abc), v5, v6, v7, v8, v9, v10, v11, v12, v13]) ∧
        Ext H H' ∧ ∃ zs : List Str, Good zs ∧ zs.length = j ∧ H' pf = some (.lst (zs.map V.str)))
      ⟨⟨none, none, none, none, none, none, none, none, none, rfl⟩, eH2, [], ⟨fun n hn => absurd hn List.not_mem_nil, List.nodup_nil⟩, rfl, fp2⟩ ?_ ?_
    · rintro j σ H3 hj ⟨⟨v5, v6, v7, v8, v9, v10, v11, v12, v13, rfl⟩, eH, zs, hg, hl, hf⟩
      have hjm : (j : Int) < m := by omega
      show tSeq _ _ _ [some (V.ref l), some (V.int k), some (V.int m), some (V.ref pf), some (V.str abc), some (V.int (0 + (j : Int))), v6, v7, v8, v9, v10, v11, v12, v13] H3
      clear hN
      refine seq_i fun N2 hN2 => ?_
      simp only [tSeq, tIfS, tOp, tVar, tC, tCB, tCons, tNil, rI0, rI, tTest, tRet, tRetN, tNext, tAsg, gName, gNil, gCons, gTup, gUnl, tLst, tTup, tCall, tMeth, tMake, tUn, rU, tAndV, tOrV, tNotV, tAnd, tOr, tNot, tIf, tB, tFld, tDrop, tPar, tNever, tBM, rAppend, tSl, tPart, tNoPart, tM1, tyLst, List.getElem?_cons_zero, List.getElem?_cons_succ, Option.some.injEq, exists_eq_left', exists_eq_left, V.int.injEq, V.bl.injEq, V.str.injEq, V.ref.injEq, List.set_cons_zero, List.set_cons_succ, exists_and_left, exists_and_right, and_assoc, List.cons.injEq, and_true, true_and, List.cons_append, List.nil_append, List.append_nil, List.length_cons, List.length_nil, exists_eq', exists_eq, exists_const, exists_eq_right, exists_eq_right', cxK, Cx.nox, Cx.wish]
      refine ⟨by decide, by decide, fun ps hps => ?_⟩
      generalize hH4 : upd H3 ps _ = H4
      obtain ⟨e4, f4⟩ := alloc hps hH4
      refine ⟨l, ps, ns, [26, 26, 6, 5], _, rfl, seqL hs (eH.trans e4), hn, by omega, by omega, ofL f4, (by decide), (by decide), fun ds pd hd hpd => ?_⟩
      obtain ⟨one, two, size, place, rfl, ⟨o0, o1⟩, ⟨w0, w1⟩, ⟨s0, s1⟩, ⟨q0, q1⟩⟩ := drawn4 hd
      generalize hH5 : upd H4 pd _ = H5
      obtain ⟨e5, f5⟩ := alloc hpd hH5
      refine ⟨pd, rfl, _, ofL f5, rfl, ?_⟩
      simp only [List.map_cons, List.map_nil, tSeq, tIfS, tOp, tVar, tC, tCB, tCons, tNil, rI0, rI, tTest, tRet, tRetN, tNext, tAsg, gName, gNil, gCons, gTup, gUnl, tLst, tTup, tCall, tMeth, tMake, tUn, rU, tAndV, tOrV, tNotV, tAnd, tOr, tNot, tIf, tB, tFld, tDrop, tPar, tNever, tBM, rAppend, tSl, tPart, tNoPart, tM1, tyLst, List.getElem?_cons_zero, List.getElem?_cons_succ, Option.some.injEq, exists_eq_left', exists_eq_left, V.int.injEq, V.bl.injEq, V.str.injEq, V.ref.injEq, List.set_cons_zero, List.set_cons_succ, exists_and_left, exists_and_right, and_assoc, List.cons.injEq, and_true, true_and, List.cons_append, List.nil_append, List.append_nil, List.length_cons, List.length_nil, exists_eq', exists_eq, exists_const, exists_eq_right, exists_eq_right', cxK, Cx.nox, Cx.wish]
      refine hN2 _ _ ?_
      clear hN2 N2
      have e35 : Ext H3 H5 := e4.trans e5
      clear hH4 hH5 e4 e5 f4 f5 hps hpd hd
      -- rest
      refine seq_i fun N2 hN2 => ?_
      simp only [rJoinN, tSeq, tIfS, tOp, tVar, tC, tCB, tCons, tNil, rI0, rI, tTest, tRet, tRetN, tNext, tAsg, gName, gNil, gCons, gTup, gUnl, tLst, tTup, tCall, tMeth, tMake, tUn, rU, tAndV, tOrV, tNotV, tAnd, tOr, tNot, tIf, tB, tFld, tDrop, tPar, tNever, tBM, rAppend, tSl, tPart, tNoPart, tM1, tyLst, List.getElem?_cons_zero, List.getElem?_cons_succ, Option.some.injEq, exists_eq_left', exists_eq_left, V.int.injEq, V.bl.injEq, V.str.injEq, V.ref.injEq, List.set_cons_zero, List.set_cons_succ, exists_and_left, exists_and_right, and_assoc, List.cons.injEq, and_true, true_and, List.cons_append, List.nil_append, List.append_nil, List.length_cons, List.length_nil, exists_eq', exists_eq, exists_const, exists_eq_right, exists_eq_right', cxK, Cx.nox, Cx.wish]
      refine tLc_i (J := Itr 0 size.toNat) (fun R r => ⟨_, rfl, _, rfl, by omega, by omega, r⟩) walk_range fun D hD => ?_
      refine ⟨fun i H' => ∃ ys : List Str, H' = upd H5 D (.lst (ys.map V.str)) ∧ ys.length = i ∧ ∀ y ∈ ys, Let y 1, ⟨[], rfl, rfl, fun y hy => absurd hy List.not_mem_nil⟩, fun _ _ _ _ => trivial, ?_, ?_⟩
      · rintro i x H6 H7 hi ⟨ys, rfl, hy, hall⟩ ⟨rfl, rfl⟩
        have ew : wipe [some (V.ref l), some (V.int k), some (V.int m), some (V.ref pf), some (V.str abc), some (V.int (0 + (j : Int))), some (V.int one), some (V.int two), some (V.int size), some (V.int place), v10, v11, v12, v13] (List.map (fun x => x.snd) [((Str.ofString "_law_i" : Str), 12)]) =
          [some (V.ref l), some (V.int k), some (V.int m), some (V.ref pf), some (V.str abc), some (V.int (0 + (j : Int))), some (V.int one), some (V.int two), some (V.int size), some (V.int place), v10, v11, none, v13] := rfl
        refine ⟨rfl, ?_⟩
        simp only [ew, tYes, rIxS, tSeq, tIfS, tOp, tVar, tC, tCB, tCons, tNil, rI0, rI, tTest, tRet, tRetN, tNext, tAsg, gName, gNil, gCons, gTup, gUnl, tLst, tTup, tCall, tMeth, tMake, tUn, rU, tAndV, tOrV, tNotV, tAnd, tOr, tNot, tIf, tB, tFld, tDrop, tPar, tNever, tBM, rAppend, tSl, tPart, tNoPart, tM1, tyLst, List.getElem?_cons_zero, List.getElem?_cons_succ, Option.some.injEq, exists_eq_left', exists_eq_left, V.int.injEq, V.bl.injEq, V.str.injEq, V.ref.injEq, List.set_cons_zero, List.set_cons_succ, exists_and_left, exists_and_right, and_assoc, List.cons.injEq, and_true, true_and, List.cons_append, List.nil_append, List.append_nil, List.length_cons, List.length_nil, exists_eq', exists_eq, exists_const, exists_eq_right, exists_eq_right', cxK, Cx.nox, Cx.wish]
        have hq := abc_at (k := (one + (0 + (i : Int)) * two + 3 * (0 + (j : Int))) % 26) (Int.emod_nonneg _ (by decide)) (Int.emod_lt_of_pos _ (by decide))
        refine ⟨mulW64 (by omega) (by omega), mulW64 (by decide) (by omega), by decide, by decide, _, hq.1, _, upd_same, ?_, ys ++ [⟨#[97 + ((one + (0 + (i : Int)) * two + 3 * (0 + (j : Int))) % 26).toNat]⟩], ?_, ?_, ?_⟩
        · rw [List.length_map]
          have : sizeLine = 16777216 := rfl
          omega
        · rw [upd_upd, List.map_append]
          rfl
        · rw [List.length_append, hy]
          rfl
        · intro y hy2
          rcases List.mem_append.mp hy2 with h | h
          · exact hall y h
          · rw [List.mem_singleton.mp h]
            exact Let.one hq.2
      · rintro H6 ⟨ys, rfl, hy, hall⟩
        have hsum : (ys.map (·.length)).sum = ys.length := by
          clear hy
          induction ys with
          | nil => rfl
          | cons y ys ih =>
            rw [List.map_cons, List.sum_cons, ih fun z hz => hall z (List.mem_cons_of_mem _ hz), (hall y List.mem_cons_self).len, List.length_cons]
            omega
        refine ⟨D, rfl, ys, .inl (ofL upd_same), ?_, hN2 _ _ ?_⟩
        · have e0 : (Str.ofString "").length = 0 := by decide +kernel
          show (ys.map (·.length)).sum + ys.length * (Str.ofString "").length ≤ 16777216
          rw [hsum, e0]
          omega
        clear hN2 N2
        have hr0 : Let (PySem.Txt.join (Str.ofString "") ys) ys.length := by
          rw [show Str.ofString "" = Str.empty by decide +kernel]
          exact join_let ys hall
        generalize PySem.Txt.join (Str.ofString "") ys = rest at hr0 ⊢
        have hz : ys.length ≤ 5 := by omega
        generalize ys.length = n5 at hr0 hz
        generalize hH6 : upd H5 D _ = H6
        have e36 : Ext H3 H6 := hH6 ▸ e35.trans (Ext.upd hD)
        clear hH6 hD hsum hall hy ys
        -- name
        refine seq_i fun N2 hN2 => ?_
        simp only [rSlS, rIxS, tSeq, tIfS, tOp, tVar, tC, tCB, tCons, tNil, rI0, rI, tTest, tRet, tRetN, tNext, tAsg, gName, gNil, gCons, gTup, gUnl, tLst, tTup, tCall, tMeth, tMake, tUn, rU, tAndV, tOrV, tNotV, tAnd, tOr, tNot, tIf, tB, tFld, tDrop, tPar, tNever, tBM, rAppend, tSl, tPart, tNoPart, tM1, tyLst, List.getElem?_cons_zero, List.getElem?_cons_succ, Option.some.injEq, exists_eq_left', exists_eq_left, V.int.injEq, V.bl.injEq, V.str.injEq, V.ref.injEq, List.set_cons_zero, List.set_cons_succ, exists_and_left, exists_and_right, and_assoc, List.cons.injEq, and_true, true_and, List.cons_append, List.nil_append, List.append_nil, List.length_cons, List.length_nil, exists_eq', exists_eq, exists_const, exists_eq_right, exists_eq_right', cxK, Cx.nox, Cx.wish]
        have hz16 : sizeLine = 16777216 := rfl
        have hq := abc_at (k := (one + 7 * (0 + (j : Int)) + 11) % 26) (Int.emod_nonneg _ (by decide)) (Int.emod_lt_of_pos _ (by decide))
        have hpl : place = ((place.toNat : Nat) : Int) := by omega
        have hc := hr0.cut place.toNat
        rw [← hpl] at hc
        have hnm := (hc.1.app (Let.one hq.2)).app hc.2
        refine ⟨by rw [hr0.len]; omega, mulW64 (by decide) (by omega), by decide, by decide, _, hq.1, ?_, by rw [hr0.len]; omega, ?_, hN2 _ _ ?_⟩
        · rw [hc.1.len, (Let.one hq.2).len]
          omega
        · rw [(hc.1.app (Let.one hq.2)).len, hc.2.len]
          omega
        clear hN2 N2
        generalize cutS rest none (some place) ++ _ ++ _ = name at hnm ⊢
        -- a name that is taken
        refine seq_i fun N2 hN2 => ?_
        simp only [rIn, tSeq, tIfS, tOp, tVar, tC, tCB, tCons, tNil, rI0, rI, tTest, tRet, tRetN, tNext, tAsg, gName, gNil, gCons, gTup, gUnl, tLst, tTup, tCall, tMeth, tMake, tUn, rU, tAndV, tOrV, tNotV, tAnd, tOr, tNot, tIf, tB, tFld, tDrop, tPar, tNever, tBM, rAppend, tSl, tPart, tNoPart, tM1, tyLst, List.getElem?_cons_zero, List.getElem?_cons_succ, Option.some.injEq, exists_eq_left', exists_eq_left, V.int.injEq, V.bl.injEq, V.str.injEq, V.ref.injEq, List.set_cons_zero, List.set_cons_succ, exists_and_left, exists_and_right, and_assoc, List.cons.injEq, and_true, true_and, List.cons_append, List.nil_append, List.append_nil, List.length_cons, List.length_nil, exists_eq', exists_eq, exists_const, exists_eq_right, exists_eq_right', cxK, Cx.nox, Cx.wish]
        suffices fin : ∀ (nm : Str) (v13' : Option V) (H7 : Hp), Ext H3 H7 → (∃ k, Let nm k ∧ 1 ≤ k ∧ k ≤ 6) → nm ∉ zs → N2 [some (V.ref l), some (V.int k), some (V.int m), some (V.ref pf), some (V.str abc), some (V.int (0 + (j : Int))), some (V.int one), some (V.int two), some (V.int size), some (V.int place), some (V.str rest), some (V.str nm), v12, v13'] H7 by
          refine ⟨_, .inl (ofL (e36 _ _ hf)), rfl, flat_strs zs, ite2 (fun ht => ?_) (fun ht => ?_)⟩
          · have hc1 : Low (97 + j) := by unfold Low; omega
            have hat : atI abc.cps.toList (0 + (j : Int)) = some (97 + j) := by
              have := (abc_at (k := 0 + (j : Int)) (by omega) (by omega)).1
              rw [this]
              congr 1
              omega
            have ez : (Str.ofString "z").length = 1 := by decide +kernel
            refine tLc_i (J := Its tails) (fun R r => ⟨_, rfl, r⟩) walk_str fun D hD => ?_
            have fD : ∀ u, upd H6 D u pf = some (.lst (zs.map V.str)) := fun u => (Ext.upd hD) _ _ (e36 _ _ hf)
            refine ⟨fun i H' => ∃ ys : List Str, H' = upd H6 D (.lst (ys.map V.str)) ∧ ys.length ≤ i ∧ (∀ y ∈ ys, (∃ k, Let y k ∧ 1 ≤ k ∧ k ≤ 6) ∧ y ∉ zs) ∧ (ys = [] → ∀ t, t < i → cand (97 + j) t ∈ zs),
              ⟨[], rfl, Nat.le_refl _, fun y hy => absurd hy List.not_mem_nil, fun _ t ht => absurd ht (Nat.not_lt_zero _)⟩, fun _ _ _ _ => trivial, ?_, ?_⟩
            · rintro i x H7 H8 hi ⟨ys, rfl, hy, hall, hno⟩ ⟨rfl, cc, hcc, rfl⟩
              obtain ⟨hi12, rfl⟩ := tails_at hcc
              have ew : wipe [some (V.ref l), some (V.int k), some (V.int m), some (V.ref pf), some (V.str abc), some (V.int (0 + (j : Int))), some (V.int one), some (V.int two), some (V.int size), some (V.int place), some (V.str rest), some (V.str name), v12, v13] (List.map (fun x => x.snd) [((Str.ofString "_law_tail" : Str), 13)]) =
                [some (V.ref l), some (V.int k), some (V.int m), some (V.ref pf), some (V.str abc), some (V.int (0 + (j : Int))), some (V.int one), some (V.int two), some (V.int size), some (V.int place), some (V.str rest), some (V.str name), v12, none] := rfl
              refine ⟨rfl, ?_⟩
              simp only [ew, rIxS, rIn, tSeq, tIfS, tOp, tVar, tC, tCB, tCons, tNil, rI0, rI, tTest, tRet, tRetN, tNext, tAsg, gName, gNil, gCons, gTup, gUnl, tLst, tTup, tCall, tMeth, tMake, tUn, rU, tAndV, tOrV, tNotV, tAnd, tOr, tNot, tIf, tB, tFld, tDrop, tPar, tNever, tBM, rAppend, tSl, tPart, tNoPart, tM1, tyLst, List.getElem?_cons_zero, List.getElem?_cons_succ, Option.some.injEq, exists_eq_left', exists_eq_left, V.int.injEq, V.bl.injEq, V.str.injEq, V.ref.injEq, List.set_cons_zero, List.set_cons_succ, exists_and_left, exists_and_right, and_assoc, List.cons.injEq, and_true, true_and, List.cons_append, List.nil_append, List.append_nil, List.length_cons, List.length_nil, exists_eq', exists_eq, exists_const, exists_eq_right, exists_eq_right', cxK, Cx.nox, Cx.wish]
              have l1 : ∀ x, (Str.ofString "z").length + (⟨#[x]⟩ : Str).length ≤ sizeLine := fun x => by rw [ez]; show 1 + 1 ≤ sizeLine; decide
              have l2 : ∀ x y, (Str.ofString "z" ++ (⟨#[x]⟩ : Str)).length + (⟨#[y]⟩ : Str).length ≤ sizeLine := fun x y => by rw [strLen_append, ez]; show 1 + 1 + 1 ≤ sizeLine; decide
              refine ⟨by decide, _, hat, l1 _, l2 _ _, _, .inl (ofL (fD _)), rfl, flat_strs zs, ?_⟩
              rw [cand_app]
              refine ite2 (fun hb => ?_) (fun hb => ?_)
              · have hni : cand (97 + j) i ∉ zs := fun z => by
                  have hb2 : (!inV (V.str (cand (97 + j) i)) (zs.map V.str)) = true := hb
                  rw [in_strs.mpr z] at hb2
                  cases hb2
                refine ⟨by decide, _, hat, l1 _, l2 _ _, _, upd_same, ?_, ys ++ [cand (97 + j) i], ?_, ?_, ?_, ?_⟩
                · rw [List.length_map]
                  omega
                · rw [upd_upd, List.map_append, cand_app]
                  rfl
                · rw [List.length_append]
                  show ys.length + 1 ≤ i + 1
                  omega
                · intro y hy2
                  rcases List.mem_append.mp hy2 with h | h
                  · exact hall y h
                  · rw [List.mem_singleton.mp h]
                    exact ⟨⟨3, cand_let hc1 hi12, by decide, by decide⟩, hni⟩
                · intro e
                  simp at e
              · have hin : cand (97 + j) i ∈ zs := by
                  cases hq2 : inV (V.str (cand (97 + j) i)) (zs.map V.str) with
                  | true => exact in_strs.mp hq2
                  | false =>
                    refine (hb ?_).elim
                    show (!inV (V.str (cand (97 + j) i)) (zs.map V.str)) = true
                    rw [hq2]
                    rfl
                refine ⟨ys, rfl, by omega, hall, fun e t ht => ?_⟩
                rcases Nat.lt_or_ge t i with h | h
                · exact hno e t h
                · obtain rfl : t = i := by omega
                  exact hin
            · rintro H7 ⟨ys, rfl, hy, hall, hno⟩
              rw [tails_size] at hno
              cases ys with
              | nil => exact absurd (hno rfl) (cand_free (by omega))
              | cons y ys =>
                have hy1 := hall y List.mem_cons_self
                exact ⟨D, _, 0, _, rfl, rfl, ofL upd_same, atI_0, fin y v13 _ (e36.trans (Ext.upd hD)) hy1.1 hy1.2⟩
          · exact fin name v13 H6 e36 ⟨_, hnm, by omega, by omega⟩ fun z => ht (in_strs.mpr z)
        intro nm v13' H7 e37 hlet hni
        refine hN2 _ _ ?_
        clear hN2 N2
        simp only [tSeq, tIfS, tOp, tVar, tC, tCB, tCons, tNil, rI0, rI, tTest, tRet, tRetN, tNext, tAsg, gName, gNil, gCons, gTup, gUnl, tLst, tTup, tCall, tMeth, tMake, tUn, rU, tAndV, tOrV, tNotV, tAnd, tOr, tNot, tIf, tB, tFld, tDrop, tPar, tNever, tBM, rAppend, tSl, tPart, tNoPart, tM1, tyLst, List.getElem?_cons_zero, List.getElem?_cons_succ, Option.some.injEq, exists_eq_left', exists_eq_left, V.int.injEq, V.bl.injEq, V.str.injEq, V.ref.injEq, List.set_cons_zero, List.set_cons_succ, exists_and_left, exists_and_right, and_assoc, List.cons.injEq, and_true, true_and, List.cons_append, List.nil_append, List.append_nil, List.length_cons, List.length_nil, exists_eq', exists_eq, exists_const, exists_eq_right, exists_eq_right', cxK, Cx.nox, Cx.wish]
        have e7 := e37 _ _ hf
        refine ⟨tyLst e7, _, e7, by rw [List.length_map]; omega, upd_ext (eH.trans e37) hpf, zs ++ [nm], ⟨?_, ?_⟩, ?_, ?_⟩
        · intro n hn2
          rcases List.mem_append.mp hn2 with h | h
          · exact hg.each n h
          · rw [List.mem_singleton.mp h]
            exact hlet
        · exact List.nodup_append.mpr ⟨hg.nd, by simp, fun x hx y hy e => by
            rw [List.mem_singleton.mp hy] at e
            exact hni (e ▸ hx)⟩
        · rw [List.length_append, hl]
          rfl
        · rw [upd_same, List.map_append]
          rfl
    · rintro σ H3 ⟨⟨v5, v6, v7, v8, v9, v10, v11, v12, v13, rfl⟩, eH, zs, hg, hl, hf⟩
      refine hN _ _ ?_
      simp only [tSeq, tIfS, tOp, tVar, tC, tCB, tCons, tNil, rI0, rI, tTest, tRet, tRetN, tNext, tAsg, gName, gNil, gCons, gTup, gUnl, tLst, tTup, tCall, tMeth, tMake, tUn, rU, tAndV, tOrV, tNotV, tAnd, tOr, tNot, tIf, tB, tFld, tDrop, tPar, tNever, tBM, rAppend, tSl, tPart, tNoPart, tM1, tyLst, List.getElem?_cons_zero, List.getElem?_cons_succ, Option.some.injEq, exists_eq_left', exists_eq_left, V.int.injEq, V.bl.injEq, V.str.injEq, V.ref.injEq, List.set_cons_zero, List.set_cons_succ, exists_and_left, exists_and_right, and_assoc, List.cons.injEq, and_true, true_and, List.cons_append, List.nil_append, List.append_nil, List.length_cons, List.length_nil, exists_eq', exists_eq, exists_const, exists_eq_right, exists_eq_right', cxK, Cx.nox, Cx.wish]
      exact q zs pf H3 hg (by omega) eH hf hpf

/-! ### _law_same, on data -/
def spSameD (K : PySem.W.Frag) : Sp := fun vs H Q _ => ∃ (x y : V) (d : PyData), vs = [x, y] ∧ Dp K H x d ∧ Dp K H y d ∧ Neat d ∧ Q (.bl true) H
theorem ok_l_same (T : Tx a K mg w) : FnG P w K mg base CX0 2 a.f_l_same a.d_l_same ps_l_same (spSameD K) := by
  refine okG T.F_l_same sc_l_same (fun vs H Q E h => ?_) (fun cdv A outer s H vs Q E hgd hr h => ?_)
  · obtain ⟨x, y, d, rfl, _⟩ := h
    rfl
  · obtain ⟨x, y, d, rfl, hx, hy, nt, q⟩ := h
    refine ⟨_, (pss_cons (ps_if (pt_val (pe_callB call_isi (by rfl) T.no_isinstance (by decide +kernel) (pa_cons (pv 1) (pa_cons (pe_bltn (v := V.ty "dict") (by rfl) T.no_dict (by decide +kernel) rfl) pa_nil)))) (pss_one ps_never) pss_nil)
      (pss_one (ps_ret (pe_and (pe_cmpR (op_eqD hr.units) (pv 0) (pv 1) (nomark _)) (pe_one (pe_cmpR op_eq (pe_callB (call_reprD hgd (hr.mono (by decide))) (by rfl) T.no_repr (by decide +kernel) (pa_cons (pv 0) pa_nil)) (pe_callB (call_reprD hgd (hr.mono (by decide))) (by rfl) T.no_repr (by decide +kernel) (pa_cons (pv 1) pa_nil)) (nomark _))))))), ?_⟩
    show tSeq _ _ _ [some x, some y] H
    obtain ⟨n, hn, hk⟩ := ty_data hy
    simp only [rIsi, rEqD, rReprD, rEq, tSeq, tIfS, tOp, tVar, tC, tCB, tCons, tNil, rI0, rI, tTest, tRet, tRetN, tNext, tAsg, gName, gNil, gCons, gTup, gUnl, tLst, tTup, tCall, tMeth, tMake, tUn, rU, tAndV, tOrV, tNotV, tAnd, tOr, tNot, tIf, tB, tFld, tDrop, tPar, tNever, tBM, rAppend, tSl, tPart, tNoPart, tM1, tyLst, List.getElem?_cons_zero, List.getElem?_cons_succ, Option.some.injEq, exists_eq_left', exists_eq_left, V.int.injEq, V.bl.injEq, V.str.injEq, V.ref.injEq, List.set_cons_zero, List.set_cons_succ, exists_and_left, exists_and_right, and_assoc, List.cons.injEq, and_true, true_and, List.cons_append, List.nil_append, List.append_nil, List.length_cons, List.length_nil, exists_eq', exists_eq, exists_const, exists_eq_right, exists_eq_right', cxK, Cx.nox, Cx.wish]
    refine ⟨_, _, .ty "dict", hn, false, hk, iteF ?_⟩
    refine ⟨d, hx, d, hy, nt.shaped, nt.shaped, ?_⟩
    rw [if_pos nt.refl]
    refine ⟨d, hx, nt.show_, nt.noDict, nt.deep, nt.len, d, hy, nt.show_, nt.noDict, nt.deep, nt.len, rfl, ?_⟩
    rw [decide_eq_true rfl]
    exact q

/-! ### inner -/
/-- whether a house is under the roof on a day -/
def underD (kvs : List (Key × V)) (h : Str) (day : Int) : Bool := match valV kvs (Sum.inr h) with
  | some (.int i) => decide (i ≤ day)
  | _ => false
theorem underD_none {kvs : List (Key × V)} {h : Str} {day : Int} (e : valV kvs (Sum.inr h) = none) : underD kvs h day = false := by
  unfold underD
  rw [e]
theorem underD_some {kvs : List (Key × V)} {h : Str} {day i : Int} (e : valV kvs (Sum.inr h) = some (.int i)) : underD kvs h day = decide (i ≤ day) := by
  unfold underD
  rw [e]
def spWas : Sp := fun vs H Q _ => ∃ (h : Str) (day : Int) (s : Addr) (kvs : List (Key × V)), vs = [.str h, .int day, .ref s] ∧ H s = some (.dK kvs) ∧ AllV IsI kvs ∧ Q (.bl (underD kvs h day)) H
theorem ok_was_under (T : Tx a K mg w) : FnOk P w K mg base CX0 1 a.f_was_under a.d_was_under ps_was_under spWas := by
  refine T.F_was_under.ok sc_was_under (fun vs H Q E h => ?_) (fun cdv A outer s H vs Q E hr h => ?_)
  · obtain ⟨h, day, s, kvs, rfl, _⟩ := h
    rfl
  · obtain ⟨h, day, s, kvs, rfl, hs, hI, q⟩ := h
    have hu := hu_of hr
    refine ⟨_, (pss_one (ps_ret (pe_and (pe_cmp (pc_din hu (pv 0) (pv 2)) rfl) (pe_one (pe_cmpR op_le (pe_dget hu (pv 2) (pv 0) (fun _ _ => rfl)) (pv 1) (nomark _)))))), ?_⟩
    show tRet _ _ [some (V.str h), some (V.int day), some (V.ref s)] H
    simp only [tDIn, tDGet, tSeq, tIfS, tOp, tVar, tC, tCB, tCons, tNil, rI0, rI, tTest, tRet, tRetN, tNext, tAsg, gName, gNil, gCons, gTup, gUnl, tLst, tTup, tCall, tMeth, tMake, tUn, rU, tAndV, tOrV, tNotV, tAnd, tOr, tNot, tIf, tB, tFld, tDrop, tPar, tNever, tBM, rAppend, tSl, tPart, tNoPart, tM1, tyLst, List.getElem?_cons_zero, List.getElem?_cons_succ, Option.some.injEq, exists_eq_left', exists_eq_left, V.int.injEq, V.bl.injEq, V.str.injEq, V.ref.injEq, List.set_cons_zero, List.set_cons_succ, exists_and_left, exists_and_right, and_assoc, List.cons.injEq, and_true, true_and, List.cons_append, List.nil_append, List.append_nil, List.length_cons, List.length_nil, exists_eq', exists_eq, exists_const, exists_eq_right, exists_eq_right', cxK, Cx.nox, Cx.wish]
    refine ⟨_, .inl ⟨kvs, Sum.inr h, .inl hs, rfl, rfl⟩, ?_⟩
    cases e : valV kvs (Sum.inr h) with
    | none =>
      rw [underD_none e] at q
      exact iteF q
    | some v =>
      obtain ⟨i, rfl⟩ := hI.val e
      rw [underD_some e] at q
      refine iteT ?_
      exact ⟨_, .inl ⟨kvs, Sum.inr h, .inl hs, rfl, e.symm⟩, i, rfl, q⟩
def spInner (K : PySem.W.Frag) : Sp := fun vs H Q _ => ∃ (l s : Addr) (kvs : List (Key × V)) (n day : Int) (g t : Str) (r : List V), vs = [.ref l, .ref s] ∧ SqT K H l (V.int n :: V.int day :: V.str g :: V.str t :: r) ∧ H s = some (.dK kvs) ∧ AllV IsI kvs ∧ Q (.bl (underD kvs g day && underD kvs t day)) H
theorem ok_inner (T : Tx a K mg w) : FnOk P w K mg base CX0 2 a.f_inner a.d_inner ps_inner (spInner K) := by
  refine T.F_inner.ok sc_inner (fun vs H Q E h => ?_) (fun cdv A outer s H vs Q E hr h => ?_)
  · obtain ⟨l, s, kvs, n, day, g, t, r, rfl, _⟩ := h
    rfl
  · obtain ⟨l, s, kvs, n, day, g, t, r, rfl, hl, hs, hI, q⟩ := h
    have G_was_under := ok_was_under (P := P) (w := w) (base := base) T
    have B_was_under := bnd_was_under T
    have hr_was_under : Room 1 _ := hr.mono (by decide)
    refine ⟨_, (pss_one (ps_ret (pe_and (pe_call G_was_under hr_was_under (by rfl) T.mg_was_under T.F_was_under.kp B_was_under .nil pass0 (pa_cons (pe_ix ix_tup (pv 0) pe_int (fun _ _ => rfl)) (pa_cons (pe_ix ix_tup (pv 0) pe_int (fun _ _ => rfl)) (pa_cons (pv 1) pa_nil)))) (pe_one (pe_call G_was_under hr_was_under (by rfl) T.mg_was_under T.F_was_under.kp B_was_under .nil pass0 (pa_cons (pe_ix ix_tup (pv 0) pe_int (fun _ _ => rfl)) (pa_cons (pe_ix ix_tup (pv 0) pe_int (fun _ _ => rfl)) (pa_cons (pv 1) pa_nil)))))))), ?_⟩
    show tRet _ _ [some (V.ref l), some (V.ref s)] H
    simp only [rIxT, tSeq, tIfS, tOp, tVar, tC, tCB, tCons, tNil, rI0, rI, tTest, tRet, tRetN, tNext, tAsg, gName, gNil, gCons, gTup, gUnl, tLst, tTup, tCall, tMeth, tMake, tUn, rU, tAndV, tOrV, tNotV, tAnd, tOr, tNot, tIf, tB, tFld, tDrop, tPar, tNever, tBM, rAppend, tSl, tPart, tNoPart, tM1, tyLst, List.getElem?_cons_zero, List.getElem?_cons_succ, Option.some.injEq, exists_eq_left', exists_eq_left, V.int.injEq, V.bl.injEq, V.str.injEq, V.ref.injEq, List.set_cons_zero, List.set_cons_succ, exists_and_left, exists_and_right, and_assoc, List.cons.injEq, and_true, true_and, List.cons_append, List.nil_append, List.append_nil, List.length_cons, List.length_nil, exists_eq', exists_eq, exists_const, exists_eq_right, exists_eq_right', cxK, Cx.nox, Cx.wish]
    have a1 : atI (V.int n :: V.int day :: V.str g :: V.str t :: r) 1 = some (V.int day) := Own.atI_nat (j := 1) rfl
    have a2 : atI (V.int n :: V.int day :: V.str g :: V.str t :: r) 2 = some (V.str g) := Own.atI_nat (j := 2) rfl
    have a3 : atI (V.int n :: V.int day :: V.str g :: V.str t :: r) 3 = some (V.str t) := Own.atI_nat (j := 3) rfl
    refine ⟨_, hl, _, a2, _, hl, _, a1, g, day, s, kvs, rfl, hs, hI, _, rfl, ?_⟩
    cases e : underD kvs g day with
    | false =>
      rw [e, Bool.false_and] at q
      exact iteF q
    | true =>
      rw [e, Bool.true_and] at q
      exact iteT ⟨_, hl, _, a3, _, hl, _, a1, t, day, s, kvs, rfl, hs, hI, q⟩

end
end My

set_option Elab.async false
set_option maxRecDepth 100000
set_option maxHeartbeats 4000000
set_option linter.all false
namespace My
open PySem L2 Own
section
variable {P : Program} {w : World} {K : PySem.W.Frag} {mg : Str → Option Value} {base : Heap} {a : Adr}
/-! ### the law -/
def spLaw (K : PySem.W.Frag) : Sp := fun vs H Q _ => ∃ (l : Addr) (ns : List Int), vs = [.ref l] ∧ SqL K H l (ns.map V.int) ∧ ns.length ≤ 63 ∧ ∀ H', Q (.bl true) H'
theorem ok_law (T : Tx a K mg w) : FnG P w K mg base CX0 4 a.f_law a.d_law ps_law (spLaw K) := by
  refine okG T.F_law sc_law (fun vs H Q E h => ?_) (fun cdv A outer s H vs Q E hgd hr h => ?_)
  · obtain ⟨l, ns, rfl, _⟩ := h
    rfl
  · obtain ⟨l, ns, rfl, hs, hn, q⟩ := h
    have hu := hu_of hr
    have G_l_digits := ok_l_digits (P := P) (w := w) (base := base) T
    have B_l_digits := bnd_l_digits T
    have hr_l_digits : Room 2 _ := hr.mono (by decide)
    have G_l_names := ok_l_names (P := P) (w := w) (base := base) T
    have B_l_names := bnd_l_names T
    have hr_l_names : Room 3 _ := hr.mono (by decide)
    have G_inner := ok_inner (P := P) (w := w) (base := base) T
    have B_inner := bnd_inner T
    have hr_inner : Room 2 _ := hr.mono (by decide)
    have G_l_same := ok_l_same (P := P) (w := w) (base := base) T
    have B_l_same := bnd_l_same T
    have hr_l_same : Room 2 _ := hr.mono (by decide)
    refine ⟨_, (pss_cons (ps_set (i := 0) sc_law.nd rfl (by first | exact Or.inl rfl | exact Or.inr rfl) (pe_slice sl_list (pv 0) po_none (po_some pe_int)))
      (pss_cons (ps_set (i := 1) sc_law.nd rfl (by first | exact Or.inl rfl | exact Or.inr rfl) (pe_call G_l_names hr_l_names (by rfl) T.mg_l_names T.F_l_names.kp B_l_names .nil pass0 (pa_cons (pv 0) (pa_cons pe_int (pa_cons pe_int pa_nil)))))
      (pss_cons (ps_for PassesOwn.never rfl (pi_range1 rfl T.no_range (pa_cons pe_int pa_nil)) (pg_name (i := 2) sc_law.nd rfl (by first | exact Or.inl rfl | exact Or.inr rfl))
        (pss_cons (ps_asg (pe_call G_l_digits hr_l_digits (by rfl) T.mg_l_digits T.F_l_digits.kp B_l_digits .nil pass0 (pa_cons (pv 0) (pa_cons (pe_op op_add pe_int (pv 2)) (pa_cons (pe_lst (pa_cons pe_int (pa_cons pe_int (pa_cons pe_int (pa_cons pe_int (pa_cons pe_int (pa_cons pe_int pa_nil))))))) pa_nil)))) (pg_unl rfl (pgs_cons (pg_name (i := 3) sc_law.nd rfl (by first | exact Or.inl rfl | exact Or.inr rfl)) (pgs_cons (pg_name (i := 4) sc_law.nd rfl (by first | exact Or.inl rfl | exact Or.inr rfl)) (pgs_cons (pg_name (i := 5) sc_law.nd rfl (by first | exact Or.inl rfl | exact Or.inr rfl)) (pgs_cons (pg_name (i := 6) sc_law.nd rfl (by first | exact Or.inl rfl | exact Or.inr rfl)) (pgs_cons (pg_name (i := 7) sc_law.nd rfl (by first | exact Or.inl rfl | exact Or.inr rfl)) (pgs_cons (pg_name (i := 8) sc_law.nd rfl (by first | exact Or.inl rfl | exact Or.inr rfl)) pgs_nil)))))) (by rfl)))
        (pss_cons (ps_set (i := 9) sc_law.nd rfl (by first | exact Or.inl rfl | exact Or.inr rfl) pe_dnewK)
        (pss_cons (ps_for PassesOwn.never rfl (pi_range1 rfl T.no_range (pa_cons (pv 8) pa_nil)) (pg_name (i := 10) sc_law.nd rfl (by first | exact Or.inl rfl | exact Or.inr rfl))
          (pss_one (ps_dput hu (pv 9) (pe_ix ix_list (pv 1) (pe_op op_mod (pe_op op_add (pv 10) (pv 4)) pe_int) (fun _ _ => rfl)) (pe_ix ix_list (pe_lst (pa_cons (pv 5) (pa_cons (pe_callB (call_max2 rfl) (by rfl) T.no_max (by decide +kernel) (pa_cons pe_int (pa_cons (pe_op op_sub (pv 5) pe_int) pa_nil))) (pa_cons (pe_callB (call_min2 rfl) (by rfl) T.no_min (by decide +kernel) (pa_cons pe_int (pa_cons (pe_op op_add (pv 5) pe_int) pa_nil))) (pa_cons pe_int (pa_cons pe_int pa_nil)))))) (pe_op op_mod (pe_op op_add (pv 6) (pe_op op_mulW (pv 10) (pv 7))) pe_int) (fun _ _ => rfl)) rfl)))
        (pss_cons (ps_set (i := 11) sc_law.nd rfl (by first | exact Or.inl rfl | exact Or.inr rfl) (pe_ifExp (pt_cmpR op_eq (pv 3) pe_int (nomark _)) pe_str (pe_ix ix_list (pv 1) (pv 3) (fun _ _ => rfl))))
        (pss_cons (ps_set (i := 12) sc_law.nd rfl (by first | exact Or.inl rfl | exact Or.inr rfl) (pe_ifExp (pt_cmpR op_eq (pv 3) pe_int (nomark _)) (pe_ix ix_list (pv 1) (pv 4) (fun _ _ => rfl)) (pe_ix ix_list (pv 1) (pe_op op_mod (pe_op op_add (pe_op op_add (pv 3) pe_int) (pe_op op_mod (pv 4) pe_int)) pe_int) (fun _ _ => rfl))))
        (pss_cons (ps_set (i := 13) sc_law.nd rfl (by first | exact Or.inl rfl | exact Or.inr rfl) (pe_tup (pa_cons (pe_op op_add pe_int (pv 2)) (pa_cons (pv 5) (pa_cons (pv 11) (pa_cons (pv 12) (pa_cons pe_str (pa_cons pe_int (pa_cons pe_int pa_nil)))))))))
        (pss_cons (ps_set (i := 14) sc_law.nd rfl (by first | exact Or.inl rfl | exact Or.inr rfl) (pe_and (pe_cmp (pc_din hu (pv 11) (pv 9)) rfl) (pe_and (pe_cmp (pc_din hu (pv 12) (pv 9)) rfl) (pe_one (pe_cmpR op_le (pe_callB (call_max2 rfl) (by rfl) T.no_max (by decide +kernel) (pa_cons (pe_dget hu (pv 9) (pv 11) (fun _ _ => rfl)) (pa_cons (pe_dget hu (pv 9) (pv 12) (fun _ _ => rfl)) pa_nil))) (pv 5) (nomark _))))))
        (pss_cons (ps_set (i := 15) sc_law.nd rfl (by first | exact Or.inl rfl | exact Or.inr rfl) (pe_callTy call_dictD (by rfl) T.no_dict (by decide +kernel) (pa_cons (pv 9) pa_nil)))
        (pss_one (ps_if (PW.pt (pw_or (pt_not (pt_val (pe_callG G_l_same hgd hr_l_same (by rfl) T.mg_l_same T.F_l_same.kp B_l_same pass0 (pa_cons (pe_call G_inner hr_inner (by rfl) T.mg_inner T.F_inner.kp B_inner .nil pass0 (pa_cons (pv 13) (pa_cons (pv 15) pa_nil))) (pa_cons (pv 14) pa_nil))))) (pw_or1 (pt_cmpR (op_ne_dictA (Nat.lt_of_succ_lt hu)) (pv 15) (pv 9) (nomark _))))) (pss_one (ps_ret pe_bl)) pss_nil)))))))))))
      (pss_one (ps_ret pe_bl))))), ?_⟩
    show tSeq _ _ _ [some (V.ref l), none, none, none, none, none, none, none, none, none, none, none, none, none, none, none] H
    refine seq_i fun N hN => ?_
    simp only [rSlL, tSeq, tIfS, tOp, tVar, tC, tCB, tCons, tNil, rI0, rI, tTest, tRet, tRetN, tNext, tAsg, gName, gNil, gCons, gTup, gUnl, tLst, tTup, tCall, tMeth, tMake, tUn, rU, tAndV, tOrV, tNotV, tAnd, tOr, tNot, tIf, tB, tFld, tDrop, tPar, tNever, tBM, rAppend, tSl, tPart, tNoPart, tM1, tyLst, List.getElem?_cons_zero, List.getElem?_cons_succ, Option.some.injEq, exists_eq_left', exists_eq_left, V.int.injEq, V.bl.injEq, V.str.injEq, V.ref.injEq, List.set_cons_zero, List.set_cons_succ, exists_and_left, exists_and_right, and_assoc, List.cons.injEq, and_true, true_and, List.cons_append, List.nil_append, List.append_nil, List.length_cons, List.length_nil, exists_eq', exists_eq, exists_const, exists_eq_right, exists_eq_right', cxK, Cx.nox, Cx.wish]
    refine ⟨_, hs, fun p0 hp0 => ?_⟩
    obtain ⟨ms, em, hm⟩ := cut_ints ns none (some 63)
    rw [em]
    generalize hH0 : upd H p0 _ = H0
    obtain ⟨_, f0⟩ := alloc hp0 hH0
    clear hH0
    refine hN _ _ ?_
    clear hN N
    have s0 : SqL K H0 p0 (ms.map V.int) := ofL f0
    refine seq_i fun N hN => ?_
    simp only [tSeq, tIfS, tOp, tVar, tC, tCB, tCons, tNil, rI0, rI, tTest, tRet, tRetN, tNext, tAsg, gName, gNil, gCons, gTup, gUnl, tLst, tTup, tCall, tMeth, tMake, tUn, rU, tAndV, tOrV, tNotV, tAnd, tOr, tNot, tIf, tB, tFld, tDrop, tPar, tNever, tBM, rAppend, tSl, tPart, tNoPart, tM1, tyLst, List.getElem?_cons_zero, List.getElem?_cons_succ, Option.some.injEq, exists_eq_left', exists_eq_left, V.int.injEq, V.bl.injEq, V.str.injEq, V.ref.injEq, List.set_cons_zero, List.set_cons_succ, exists_and_left, exists_and_right, and_assoc, List.cons.injEq, and_true, true_and, List.cons_append, List.nil_append, List.append_nil, List.length_cons, List.length_nil, exists_eq', exists_eq, exists_const, exists_eq_right, exists_eq_right', cxK, Cx.nox, Cx.wish]
    refine ⟨p0, ms, 0, 5, rfl, s0, by omega, by decide, by decide, by decide, by decide, fun zs pn H1 hzs hzl e1 f1 _ => ?_⟩
    refine hN _ _ ?_
    clear hN N
    have s1 := seqL s0 e1
    have n1 : SqL K H1 pn (zs.map V.str) := ofL f1
    have hzl : zs.length = 5 := by omega
    clear s0 f0 e1 f1 hp0 em hs
    refine seq_i fun N hN => ?_
    refine for_rangeI (n := 8) (fun R r => r) (by decide) (by decide) (fun i σ H' => (∃ v2 v3 v4 v5 v6 v7 v8 v9 v10 v11 v12 v13 v14 v15, σ = [some (V.ref p0), some (V.ref pn), v2, v3, v4, v5, v6, v7, v8, v9, v10, v11, v12, v13, v14, v15]) ∧ SqL K H' p0 (ms.map V.int) ∧ SqL K H' pn (zs.map V.str))
      ⟨⟨_, _, _, _, _, _, _, _, _, _, _, _, _, _, rfl⟩, s1, n1⟩ ?_ ?_
    · rintro i σ H2 hi ⟨⟨v2, v3, v4, v5, v6, v7, v8, v9, v10, v11, v12, v13, v14, v15, rfl⟩, s2, n2⟩
      clear s1 n1 hN
      have hi : i < 8 := hi
      show tSeq _ _ _ [some (V.ref p0), some (V.ref pn), some (V.int (0 + (i : Int))), v3, v4, v5, v6, v7, v8, v9, v10, v11, v12, v13, v14, v15] H2
      -- what is drawn
      refine seq_i fun N2 hN2 => ?_
      simp only [tSeq, tIfS, tOp, tVar, tC, tCB, tCons, tNil, rI0, rI, tTest, tRet, tRetN, tNext, tAsg, gName, gNil, gCons, gTup, gUnl, tLst, tTup, tCall, tMeth, tMake, tUn, rU, tAndV, tOrV, tNotV, tAnd, tOr, tNot, tIf, tB, tFld, tDrop, tPar, tNever, tBM, rAppend, tSl, tPart, tNoPart, tM1, tyLst, List.getElem?_cons_zero, List.getElem?_cons_succ, Option.some.injEq, exists_eq_left', exists_eq_left, V.int.injEq, V.bl.injEq, V.str.injEq, V.ref.injEq, List.set_cons_zero, List.set_cons_succ, exists_and_left, exists_and_right, and_assoc, List.cons.injEq, and_true, true_and, List.cons_append, List.nil_append, List.append_nil, List.length_cons, List.length_nil, exists_eq', exists_eq, exists_const, exists_eq_right, exists_eq_right', cxK, Cx.nox, Cx.wish]
      refine ⟨by decide, fun pz hpz => ?_⟩
      generalize hH3 : upd H2 pz _ = H3
      obtain ⟨e3, f3⟩ := alloc hpz hH3
      refine ⟨p0, pz, ms, [6, 5, 30, 5, 5, 6], 2 + (0 + (i : Int)), rfl, seqL s2 e3, by omega, by omega, by omega, ofL f3, (by decide), (by decide), fun ds pd hd hpd => ?_⟩
      obtain ⟨one, two, day, lean, oth, many, rfl, ⟨a0, a1⟩, ⟨b0, b1⟩, ⟨c0, c1⟩, ⟨d0, d1⟩, ⟨g0, g1⟩, ⟨m0, m1⟩⟩ := drawn6 hd
      generalize hH4 : upd H3 pd _ = H4
      obtain ⟨e4, f4⟩ := alloc hpd hH4
      refine ⟨pd, rfl, _, ofL f4, rfl, ?_⟩
      simp only [List.map_cons, List.map_nil, tSeq, tIfS, tOp, tVar, tC, tCB, tCons, tNil, rI0, rI, tTest, tRet, tRetN, tNext, tAsg, gName, gNil, gCons, gTup, gUnl, tLst, tTup, tCall, tMeth, tMake, tUn, rU, tAndV, tOrV, tNotV, tAnd, tOr, tNot, tIf, tB, tFld, tDrop, tPar, tNever, tBM, rAppend, tSl, tPart, tNoPart, tM1, tyLst, List.getElem?_cons_zero, List.getElem?_cons_succ, Option.some.injEq, exists_eq_left', exists_eq_left, V.int.injEq, V.bl.injEq, V.str.injEq, V.ref.injEq, List.set_cons_zero, List.set_cons_succ, exists_and_left, exists_and_right, and_assoc, List.cons.injEq, and_true, true_and, List.cons_append, List.nil_append, List.append_nil, List.length_cons, List.length_nil, exists_eq', exists_eq, exists_const, exists_eq_right, exists_eq_right', cxK, Cx.nox, Cx.wish]
      refine hN2 _ _ ?_
      clear hN2 N2
      have s4 := seqL s2 (e3.trans e4)
      have n4 := seqL n2 (e3.trans e4)
      clear hH3 hH4 e3 e4 f3 f4 hpz hpd hd s2 n2
      -- under
      refine seq_i fun N2 hN2 => ?_
      simp only [tDNewK, tSeq, tIfS, tOp, tVar, tC, tCB, tCons, tNil, rI0, rI, tTest, tRet, tRetN, tNext, tAsg, gName, gNil, gCons, gTup, gUnl, tLst, tTup, tCall, tMeth, tMake, tUn, rU, tAndV, tOrV, tNotV, tAnd, tOr, tNot, tIf, tB, tFld, tDrop, tPar, tNever, tBM, rAppend, tSl, tPart, tNoPart, tM1, tyLst, List.getElem?_cons_zero, List.getElem?_cons_succ, Option.some.injEq, exists_eq_left', exists_eq_left, V.int.injEq, V.bl.injEq, V.str.injEq, V.ref.injEq, List.set_cons_zero, List.set_cons_succ, exists_and_left, exists_and_right, and_assoc, List.cons.injEq, and_true, true_and, List.cons_append, List.nil_append, List.append_nil, List.length_cons, List.length_nil, exists_eq', exists_eq, exists_const, exists_eq_right, exists_eq_right', cxK, Cx.nox, Cx.wish]
      intro pu hpu
      generalize hH5 : upd H4 pu _ = H5
      obtain ⟨e5, f5⟩ := alloc hpu hH5
      refine hN2 _ _ ?_
      clear hN2 N2 hH5
      refine seq_i fun N2 hN2 => ?_
      refine for_rangeI (n := many) (fun R r => ⟨_, rfl, r⟩) m0 (by omega) (fun j σ H' => (∃ v10, σ = [some (V.ref p0), some (V.ref pn), some (V.int (0 + (i : Int))), some (V.int one), some (V.int two), some (V.int day), some (V.int lean), some (V.int oth), some (V.int many), some (V.ref pu), v10, v11, v12, v13, v14, v15]) ∧
          Ext H4 H' ∧ ∃ kvs : List (Key × V), H' pu = some (.dK kvs) ∧ Uniq kvs ∧ AllV IsI kvs ∧ kvs.length ≤ j)
        ⟨⟨_, rfl⟩, e5, [], f5, Uniq.nil, AllV.nil, Nat.le_refl _⟩ ?_ ?_
      · rintro j σ H6 hj ⟨⟨v10, rfl⟩, e6, kvs, f6, hk, hI, hl⟩
        have hjm : (j : Int) < many := by omega
        show sDPut _ _ _ _ [some (V.ref p0), some (V.ref pn), some (V.int (0 + (i : Int))), some (V.int one), some (V.int two), some (V.int day), some (V.int lean), some (V.int oth), some (V.int many), some (V.ref pu), some (V.int (0 + (j : Int))), v11, v12, v13, v14, v15] H6
        clear hN2
        simp only [sDPut, rIxL, tSeq, tIfS, tOp, tVar, tC, tCB, tCons, tNil, rI0, rI, tTest, tRet, tRetN, tNext, tAsg, gName, gNil, gCons, gTup, gUnl, tLst, tTup, tCall, tMeth, tMake, tUn, rU, tAndV, tOrV, tNotV, tAnd, tOr, tNot, tIf, tB, tFld, tDrop, tPar, tNever, tBM, rAppend, tSl, tPart, tNoPart, tM1, tyLst, List.getElem?_cons_zero, List.getElem?_cons_succ, Option.some.injEq, exists_eq_left', exists_eq_left, V.int.injEq, V.bl.injEq, V.str.injEq, V.ref.injEq, List.set_cons_zero, List.set_cons_succ, exists_and_left, exists_and_right, and_assoc, List.cons.injEq, and_true, true_and, List.cons_append, List.nil_append, List.append_nil, List.length_cons, List.length_nil, exists_eq', exists_eq, exists_const, exists_eq_right, exists_eq_right', cxK, Cx.nox, Cx.wish]
        have jo : 0 ≤ (0 + (j : Int)) * oth := Int.mul_nonneg (by omega) g0
        refine ⟨by decide, fun pl hpl => ⟨mulW64 (by omega) (by omega), by decide, ?_⟩⟩
        obtain ⟨x, hx, _⟩ := pick5 (P := fun _ => True) (a := day) (b := if day - 1 > 0 then day - 1 else 0) (c := if day + 1 < 29 then day + 1 else 29) (d := 0) (e := 29) (k := (lean + (0 + (j : Int)) * oth) % 5) (Int.emod_nonneg _ (by decide)) (Int.emod_lt_of_pos _ (by decide)) trivial trivial trivial trivial trivial
        generalize hH7 : upd H6 pl _ = H7
        obtain ⟨e7, f7⟩ := alloc hpl hH7
        obtain ⟨z, hz, hat⟩ := str_at (zs := zs) (k := (0 + (j : Int) + two) % 5) (Int.emod_nonneg _ (by decide)) (by rw [hzl]; exact Int.emod_lt_of_pos _ (by decide))
        have f7u := e7 _ _ f6
        have hz16 : sizeLine = 16777216 := rfl
        refine ⟨_, ofL f7, _, hx, by decide, _, seqL (seqL n4 e6) e7, _, hat, _, DPut.k (k := Sum.inr z) f7u (by omega), upd_ext (e6.trans e7) hpu, putK kvs (Sum.inr z) (.int x), upd_same, hk.put _ _, hI.put _ ⟨x, rfl⟩, ?_⟩
        have := length_putK kvs (Sum.inr z) (V.int x)
        omega
      · rintro σ H6 ⟨⟨v10, rfl⟩, e6, kvs, f6, hk, hI, hl⟩
        refine hN2 _ _ ?_
        clear hN2 N2 e5 f5
        have hl : kvs.length ≤ 6 := by omega
        have s6 := seqL s4 e6
        have n6 := seqL n4 e6
        clear s4 n4 e6 hpu
        -- giver
        refine seq_i fun N2 hN2 => ?_
        suffices rest : ∀ g : Str, N2 [some (V.ref p0), some (V.ref pn), some (V.int (0 + (i : Int))), some (V.int one), some (V.int two), some (V.int day), some (V.int lean), some (V.int oth), some (V.int many), some (V.ref pu), v10, some (V.str g), v12, v13, v14, v15] H6 by
          simp only [rIxL, rEq, tSeq, tIfS, tOp, tVar, tC, tCB, tCons, tNil, rI0, rI, tTest, tRet, tRetN, tNext, tAsg, gName, gNil, gCons, gTup, gUnl, tLst, tTup, tCall, tMeth, tMake, tUn, rU, tAndV, tOrV, tNotV, tAnd, tOr, tNot, tIf, tB, tFld, tDrop, tPar, tNever, tBM, rAppend, tSl, tPart, tNoPart, tM1, tyLst, List.getElem?_cons_zero, List.getElem?_cons_succ, Option.some.injEq, exists_eq_left', exists_eq_left, V.int.injEq, V.bl.injEq, V.str.injEq, V.ref.injEq, List.set_cons_zero, List.set_cons_succ, exists_and_left, exists_and_right, and_assoc, List.cons.injEq, and_true, true_and, List.cons_append, List.nil_append, List.append_nil, List.length_cons, List.length_nil, exists_eq', exists_eq, exists_const, exists_eq_right, exists_eq_right', cxK, Cx.nox, Cx.wish]
          refine ⟨rfl, ite2 (fun _ => rest _) (fun hne => ?_)⟩
          have hne : ¬ one = 5 := fun z => hne (decide_eq_true z)
          obtain ⟨z, hz, hat⟩ := str_at (zs := zs) (k := one) a0 (by omega)
          exact ⟨_, n6, _, hat, rest _⟩
        intro g
        refine hN2 _ _ ?_
        clear hN2 N2
        -- taker
        refine seq_i fun N2 hN2 => ?_
        suffices rest : ∀ t : Str, N2 [some (V.ref p0), some (V.ref pn), some (V.int (0 + (i : Int))), some (V.int one), some (V.int two), some (V.int day), some (V.int lean), some (V.int oth), some (V.int many), some (V.ref pu), v10, some (V.str g), some (V.str t), v13, v14, v15] H6 by
          simp only [rIxL, rEq, tSeq, tIfS, tOp, tVar, tC, tCB, tCons, tNil, rI0, rI, tTest, tRet, tRetN, tNext, tAsg, gName, gNil, gCons, gTup, gUnl, tLst, tTup, tCall, tMeth, tMake, tUn, rU, tAndV, tOrV, tNotV, tAnd, tOr, tNot, tIf, tB, tFld, tDrop, tPar, tNever, tBM, rAppend, tSl, tPart, tNoPart, tM1, tyLst, List.getElem?_cons_zero, List.getElem?_cons_succ, Option.some.injEq, exists_eq_left', exists_eq_left, V.int.injEq, V.bl.injEq, V.str.injEq, V.ref.injEq, List.set_cons_zero, List.set_cons_succ, exists_and_left, exists_and_right, and_assoc, List.cons.injEq, and_true, true_and, List.cons_append, List.nil_append, List.append_nil, List.length_cons, List.length_nil, exists_eq', exists_eq, exists_const, exists_eq_right, exists_eq_right', cxK, Cx.nox, Cx.wish]
          refine ⟨rfl, ite2 (fun _ => ?_) (fun hne => ?_)⟩
          · obtain ⟨z, hz, hat⟩ := str_at (zs := zs) (k := two) b0 (by omega)
            exact ⟨_, n6, _, hat, rest _⟩
          · obtain ⟨z, hz, hat⟩ := str_at (zs := zs) (k := (one + 1 + two % 4) % 5) (Int.emod_nonneg _ (by decide)) (by rw [hzl]; exact Int.emod_lt_of_pos _ (by decide))
            exact ⟨by decide, by decide, _, n6, _, hat, rest _⟩
        intro t
        refine hN2 _ _ ?_
        clear hN2 N2
        -- link
        refine seq_i fun N2 hN2 => ?_
        simp only [tSeq, tIfS, tOp, tVar, tC, tCB, tCons, tNil, rI0, rI, tTest, tRet, tRetN, tNext, tAsg, gName, gNil, gCons, gTup, gUnl, tLst, tTup, tCall, tMeth, tMake, tUn, rU, tAndV, tOrV, tNotV, tAnd, tOr, tNot, tIf, tB, tFld, tDrop, tPar, tNever, tBM, rAppend, tSl, tPart, tNoPart, tM1, tyLst, List.getElem?_cons_zero, List.getElem?_cons_succ, Option.some.injEq, exists_eq_left', exists_eq_left, V.int.injEq, V.bl.injEq, V.str.injEq, V.ref.injEq, List.set_cons_zero, List.set_cons_succ, exists_and_left, exists_and_right, and_assoc, List.cons.injEq, and_true, true_and, List.cons_append, List.nil_append, List.append_nil, List.length_cons, List.length_nil, exists_eq', exists_eq, exists_const, exists_eq_right, exists_eq_right', cxK, Cx.nox, Cx.wish]
        refine ⟨by decide, fun pk hpk => ?_⟩
        generalize hH7 : upd H6 pk _ = H7
        obtain ⟨e7, f7⟩ := alloc hpk hH7
        refine hN2 _ _ ?_
        clear hN2 N2 hH7
        have s7 := seqL s6 e7
        have n7 := seqL n6 e7
        have u7 := e7 _ _ f6
        clear s6 n6 f6 e7 hpk
        -- due
        refine seq_i fun N2 hN2 => ?_
        suffices rest : N2 [some (V.ref p0), some (V.ref pn), some (V.int (0 + (i : Int))), some (V.int one), some (V.int two), some (V.int day), some (V.int lean), some (V.int oth), some (V.int many), some (V.ref pu), v10, some (V.str g), some (V.str t), some (V.ref pk), some (V.bl (underD kvs g day && underD kvs t day)), v15] H7 by
          simp only [tDIn, tDGet, tSeq, tIfS, tOp, tVar, tC, tCB, tCons, tNil, rI0, rI, tTest, tRet, tRetN, tNext, tAsg, gName, gNil, gCons, gTup, gUnl, tLst, tTup, tCall, tMeth, tMake, tUn, rU, tAndV, tOrV, tNotV, tAnd, tOr, tNot, tIf, tB, tFld, tDrop, tPar, tNever, tBM, rAppend, tSl, tPart, tNoPart, tM1, tyLst, List.getElem?_cons_zero, List.getElem?_cons_succ, Option.some.injEq, exists_eq_left', exists_eq_left, V.int.injEq, V.bl.injEq, V.str.injEq, V.ref.injEq, List.set_cons_zero, List.set_cons_succ, exists_and_left, exists_and_right, and_assoc, List.cons.injEq, and_true, true_and, List.cons_append, List.nil_append, List.append_nil, List.length_cons, List.length_nil, exists_eq', exists_eq, exists_const, exists_eq_right, exists_eq_right', cxK, Cx.nox, Cx.wish]
          refine ⟨_, .inl ⟨kvs, Sum.inr g, .inl u7, rfl, rfl⟩, ?_⟩
          cases eg : valV kvs (Sum.inr g) with
          | none =>
            rw [underD_none eg, Bool.false_and] at rest
            exact iteF rest
          | some v =>
            obtain ⟨x, rfl⟩ := hI.val eg
            rw [underD_some eg] at rest
            refine iteT ⟨_, .inl ⟨kvs, Sum.inr t, .inl u7, rfl, rfl⟩, ?_⟩
            cases et : valV kvs (Sum.inr t) with
            | none =>
              rw [underD_none et, Bool.and_false] at rest
              exact iteF rest
            | some v =>
              obtain ⟨y, rfl⟩ := hI.val et
              rw [underD_some et] at rest
              refine iteT ⟨_, .inl ⟨kvs, Sum.inr g, .inl u7, rfl, eg.symm⟩, _, .inl ⟨kvs, Sum.inr t, .inl u7, rfl, et.symm⟩, x, rfl, y, rfl, ?_⟩
              have ee : decide ((if y > x then y else x) ≤ day) = (decide (x ≤ day) && decide (y ≤ day)) := by
                rw [← Bool.decide_and]
                refine decide_eq_decide.mpr ?_
                split <;> omega
              rw [ee]
              exact rest
        refine hN2 _ _ ?_
        clear hN2 N2
        -- handed
        refine seq_i fun N2 hN2 => ?_
        simp only [tSeq, tIfS, tOp, tVar, tC, tCB, tCons, tNil, rI0, rI, tTest, tRet, tRetN, tNext, tAsg, gName, gNil, gCons, gTup, gUnl, tLst, tTup, tCall, tMeth, tMake, tUn, rU, tAndV, tOrV, tNotV, tAnd, tOr, tNot, tIf, tB, tFld, tDrop, tPar, tNever, tBM, rAppend, tSl, tPart, tNoPart, tM1, tyLst, List.getElem?_cons_zero, List.getElem?_cons_succ, Option.some.injEq, exists_eq_left', exists_eq_left, V.int.injEq, V.bl.injEq, V.str.injEq, V.ref.injEq, List.set_cons_zero, List.set_cons_succ, exists_and_left, exists_and_right, and_assoc, List.cons.injEq, and_true, true_and, List.cons_append, List.nil_append, List.append_nil, List.length_cons, List.length_nil, exists_eq', exists_eq, exists_const, exists_eq_right, exists_eq_right', cxK, Cx.nox, Cx.wish]
        refine ⟨kvs, .inl u7, fun ph hph => ?_⟩
        generalize hH8 : upd H7 ph _ = H8
        obtain ⟨e8, f8⟩ := alloc hph hH8
        refine hN2 _ _ ?_
        clear hN2 N2 hH8
        -- held against one another
        simp only [rNeDA, tSeq, tIfS, tOp, tVar, tC, tCB, tCons, tNil, rI0, rI, tTest, tRet, tRetN, tNext, tAsg, gName, gNil, gCons, gTup, gUnl, tLst, tTup, tCall, tMeth, tMake, tUn, rU, tAndV, tOrV, tNotV, tAnd, tOr, tNot, tIf, tB, tFld, tDrop, tPar, tNever, tBM, rAppend, tSl, tPart, tNoPart, tM1, tyLst, List.getElem?_cons_zero, List.getElem?_cons_succ, Option.some.injEq, exists_eq_left', exists_eq_left, V.int.injEq, V.bl.injEq, V.str.injEq, V.ref.injEq, List.set_cons_zero, List.set_cons_succ, exists_and_left, exists_and_right, and_assoc, List.cons.injEq, and_true, true_and, List.cons_append, List.nil_append, List.append_nil, List.length_cons, List.length_nil, exists_eq', exists_eq, exists_const, exists_eq_right, exists_eq_right', cxK, Cx.nox, Cx.wish]
        generalize hb : (underD kvs g day && underD kvs t day) = b
        refine ⟨pk, ph, kvs, _, day, g, t, _, rfl, ofT (e8 _ _ f7), f8, hI, ?_⟩
        rw [hb]
        refine ⟨_, _, .bool b, rfl, .bl b, .bl b, Neat.bl b, true, rfl, iteF ?_⟩
        refine ⟨kvs, f8, kvs, e8 _ _ u7, rfl, fun p hp => ⟨hk.get hp, ?_⟩, iteF ⟨seqL s7 e8, seqL n7 e8⟩⟩
        obtain ⟨x, hx⟩ := hI p hp
        rw [hx]
        rfl
    · rintro σ H1 ⟨⟨v2, v3, v4, v5, v6, v7, v8, v9, v10, v11, v12, v13, v14, v15, rfl⟩, _, _⟩
      refine hN _ _ ?_
      simp only [tSeq, tIfS, tOp, tVar, tC, tCB, tCons, tNil, rI0, rI, tTest, tRet, tRetN, tNext, tAsg, gName, gNil, gCons, gTup, gUnl, tLst, tTup, tCall, tMeth, tMake, tUn, rU, tAndV, tOrV, tNotV, tAnd, tOr, tNot, tIf, tB, tFld, tDrop, tPar, tNever, tBM, rAppend, tSl, tPart, tNoPart, tM1, tyLst, List.getElem?_cons_zero, List.getElem?_cons_succ, Option.some.injEq, exists_eq_left', exists_eq_left, V.int.injEq, V.bl.injEq, V.str.injEq, V.ref.injEq, List.set_cons_zero, List.set_cons_succ, exists_and_left, exists_and_right, and_assoc, List.cons.injEq, and_true, true_and, List.cons_append, List.nil_append, List.append_nil, List.length_cons, List.length_nil, exists_eq', exists_eq, exists_const, exists_eq_right, exists_eq_right', cxK, Cx.nox, Cx.wish]
      exact q _
end
end My

set_option Elab.async false
set_option maxRecDepth 100000
set_option maxHeartbeats 4000000
set_option linter.all false
namespace My
open PySem L2 Own
section
variable {P : Program} {w : World} {K : PySem.W.Frag} {mg : Str → Option Value} {base : Heap} {a : Adr}
end
theorem all_mk {P : Program} {w : World} {K : PySem.W.Frag} {h : Heap} {mg : Str → Option Value} {fa f_inner f_was_under f_l_cell f_l_digits f_l_names f_l_same f_law : Addr} (X : K.In h) (G : h.Ns mainGlobals mg) (hfa : mg "law" = some (.ref fa))
    {od_inner an_inner od_was_under an_was_under od_l_cell an_l_cell od_l_digits an_l_digits od_l_names an_l_names od_l_same an_l_same od_law an_law : Option Addr}
    {sl_inner sl_was_under sl_l_cell sl_l_digits sl_l_names sl_l_same sl_law : Array (Option Value)}
    {oc_inner kV_inner dc_inner pm_inner cd_inner ct_inner oc_was_under kV_was_under dc_was_under pm_was_under cd_was_under ct_was_under oc_l_cell kV_l_cell dc_l_cell pm_l_cell cd_l_cell ct_l_cell oc_l_digits kV_l_digits dc_l_digits pm_l_digits cd_l_digits ct_l_digits oc_l_names kV_l_names dc_l_names pm_l_names cd_l_names ct_l_names oc_l_same kV_l_same dc_l_same pm_l_same cd_l_same ct_l_same oc_law kV_law dc_law pm_law cd_law ct_law : Value}
    (g_inner : PySem.W.nsIn K mainGlobals "inner" = some (some (.ref f_inner)))
    (g_was_under : PySem.W.nsIn K mainGlobals "_was_under" = some (some (.ref f_was_under)))
    (g_l_cell : PySem.W.nsIn K mainGlobals "_law_cell" = some (some (.ref f_l_cell)))
    (g_l_digits : PySem.W.nsIn K mainGlobals "_law_digits" = some (some (.ref f_l_digits)))
    (g_l_names : PySem.W.nsIn K mainGlobals "_law_names" = some (some (.ref f_l_names)))
    (g_l_same : PySem.W.nsIn K mainGlobals "_law_same" = some (some (.ref f_l_same)))
    (g_law : PySem.W.nsIn K mainGlobals "law" = some (some (.ref f_law)))
    (l_inner : K.lookup f_inner = some ⟨oc_inner, od_inner, .func (PySem.W.fnOf "inner" "inner" (defArgs s_inner) (defBody s_inner) (defScope s_inner) .none kV_inner dc_inner pm_inner an_inner cd_inner ct_inner), sl_inner⟩)
    (c_inner : PySem.W.codeIn K cd_inner "inner" = true)
    (k_inner : PySem.W.keepIn K (.ref f_inner) = true)
    (l_was_under : K.lookup f_was_under = some ⟨oc_was_under, od_was_under, .func (PySem.W.fnOf "_was_under" "_was_under" (defArgs s_was_under) (defBody s_was_under) (defScope s_was_under) .none kV_was_under dc_was_under pm_was_under an_was_under cd_was_under ct_was_under), sl_was_under⟩)
    (c_was_under : PySem.W.codeIn K cd_was_under "_was_under" = true)
    (k_was_under : PySem.W.keepIn K (.ref f_was_under) = true)
    (l_l_cell : K.lookup f_l_cell = some ⟨oc_l_cell, od_l_cell, .func (PySem.W.fnOf "_law_cell" "_law_cell" (defArgs s_l_cell) (defBody s_l_cell) (defScope s_l_cell) .none kV_l_cell dc_l_cell pm_l_cell an_l_cell cd_l_cell ct_l_cell), sl_l_cell⟩)
    (c_l_cell : PySem.W.codeIn K cd_l_cell "_law_cell" = true)
    (k_l_cell : PySem.W.keepIn K (.ref f_l_cell) = true)
    (l_l_digits : K.lookup f_l_digits = some ⟨oc_l_digits, od_l_digits, .func (PySem.W.fnOf "_law_digits" "_law_digits" (defArgs s_l_digits) (defBody s_l_digits) (defScope s_l_digits) .none kV_l_digits dc_l_digits pm_l_digits an_l_digits cd_l_digits ct_l_digits), sl_l_digits⟩)
    (c_l_digits : PySem.W.codeIn K cd_l_digits "_law_digits" = true)
    (k_l_digits : PySem.W.keepIn K (.ref f_l_digits) = true)
    (l_l_names : K.lookup f_l_names = some ⟨oc_l_names, od_l_names, .func (PySem.W.fnOf "_law_names" "_law_names" (defArgs s_l_names) (defBody s_l_names) (defScope s_l_names) .none kV_l_names dc_l_names pm_l_names an_l_names cd_l_names ct_l_names), sl_l_names⟩)
    (c_l_names : PySem.W.codeIn K cd_l_names "_law_names" = true)
    (k_l_names : PySem.W.keepIn K (.ref f_l_names) = true)
    (l_l_same : K.lookup f_l_same = some ⟨oc_l_same, od_l_same, .func (PySem.W.fnOf "_law_same" "_law_same" (defArgs s_l_same) (defBody s_l_same) (defScope s_l_same) .none kV_l_same dc_l_same pm_l_same an_l_same cd_l_same ct_l_same), sl_l_same⟩)
    (c_l_same : PySem.W.codeIn K cd_l_same "_law_same" = true)
    (k_l_same : PySem.W.keepIn K (.ref f_l_same) = true)
    (l_law : K.lookup f_law = some ⟨oc_law, od_law, .func (PySem.W.fnOf "law" "law" (defArgs s_law) (defBody s_law) (defScope s_law) .none kV_law dc_law pm_law an_law cd_law ct_law), sl_law⟩)
    (c_law : PySem.W.codeIn K cd_law "law" = true)
    (k_law : PySem.W.keepIn K (.ref f_law) = true)
    (z_len : PySem.W.nsIn K mainGlobals "len" = some none)
    (z_range : PySem.W.nsIn K mainGlobals "range" = some none)
    (z_isinstance : PySem.W.nsIn K mainGlobals "isinstance" = some none)
    (z_repr : PySem.W.nsIn K mainGlobals "repr" = some none)
    (z_dict : PySem.W.nsIn K mainGlobals "dict" = some none)
    (z_sorted : PySem.W.nsIn K mainGlobals "sorted" = some none)
    (z_max : PySem.W.nsIn K mainGlobals "max" = some none)
    (z_min : PySem.W.nsIn K mainGlobals "min" = some none)
    : ∃ fd : FuncData, (∀ (s : Shared) (v : Value), BindsTo s fd ⟨[v], []⟩ [("_law_script", v)]) ∧ ∀ base : Heap, K.In base → base.Ns mainGlobals mg → FnG P w K mg base CX0 4 fa fd ["_law_script"] (spLaw K) := by
  have e := (PySem.W.mg_of X G g_law).symm.trans hfa
  cases e
  have T : Tx ⟨f_inner, (PySem.W.fnOf "inner" "inner" (defArgs s_inner) (defBody s_inner) (defScope s_inner) .none kV_inner dc_inner pm_inner an_inner cd_inner ct_inner), f_was_under, (PySem.W.fnOf "_was_under" "_was_under" (defArgs s_was_under) (defBody s_was_under) (defScope s_was_under) .none kV_was_under dc_was_under pm_was_under an_was_under cd_was_under ct_was_under), f_l_cell, (PySem.W.fnOf "_law_cell" "_law_cell" (defArgs s_l_cell) (defBody s_l_cell) (defScope s_l_cell) .none kV_l_cell dc_l_cell pm_l_cell an_l_cell cd_l_cell ct_l_cell), f_l_digits, (PySem.W.fnOf "_law_digits" "_law_digits" (defArgs s_l_digits) (defBody s_l_digits) (defScope s_l_digits) .none kV_l_digits dc_l_digits pm_l_digits an_l_digits cd_l_digits ct_l_digits), f_l_names, (PySem.W.fnOf "_law_names" "_law_names" (defArgs s_l_names) (defBody s_l_names) (defScope s_l_names) .none kV_l_names dc_l_names pm_l_names an_l_names cd_l_names ct_l_names), f_l_same, (PySem.W.fnOf "_law_same" "_law_same" (defArgs s_l_same) (defBody s_l_same) (defScope s_l_same) .none kV_l_same dc_l_same pm_l_same an_l_same cd_l_same ct_l_same), fa, (PySem.W.fnOf "law" "law" (defArgs s_law) (defBody s_law) (defScope s_law) .none kV_law dc_law pm_law an_law cd_law ct_law)⟩ K mg w := ⟨fun_mk (st := s_inner) l_inner c_inner k_inner, PySem.W.mg_of X G g_inner, fun_mk (st := s_was_under) l_was_under c_was_under k_was_under, PySem.W.mg_of X G g_was_under, fun_mk (st := s_l_cell) l_l_cell c_l_cell k_l_cell, PySem.W.mg_of X G g_l_cell, fun_mk (st := s_l_digits) l_l_digits c_l_digits k_l_digits, PySem.W.mg_of X G g_l_digits, fun_mk (st := s_l_names) l_l_names c_l_names k_l_names, PySem.W.mg_of X G g_l_names, fun_mk (st := s_l_same) l_l_same c_l_same k_l_same, PySem.W.mg_of X G g_l_same, fun_mk (st := s_law) l_law c_law k_law, PySem.W.mg_of X G g_law, PySem.W.mg_none_of X G z_len, PySem.W.mg_none_of X G z_range, PySem.W.mg_none_of X G z_isinstance, PySem.W.mg_none_of X G z_repr, PySem.W.mg_none_of X G z_dict, PySem.W.mg_none_of X G z_sorted, PySem.W.mg_none_of X G z_max, PySem.W.mg_none_of X G z_min⟩
  exact ⟨_, fun s v => .of_eq rfl, fun base _ _ => ok_law T⟩
theorem walk {l : PySem.W.OpenLaw} {q : Program} {loose : List Str} {XP : (Str → Option Value) → Heap → Prop} {YP : World → Heap → Prop} {d : DefRec} {K : Params → PySem.W.Frag} (hn : l.most = some 63) (hdf : d.params.defaults = [])
    (hY : ∀ (w : World) (h : Heap), YP w h → (K w.params).In h)
    (F : ∀ (w : World) (mg : Str → Option Value) (fa : Addr) (h : Heap), (K w.params).In h → h.Ns mainGlobals mg → mg d.name = some (.ref fa) →
      ∃ fd : FuncData, (∀ (s : Shared) (u : Value), BindsTo s fd ⟨[u], []⟩ [("_law_script", u)]) ∧ ∀ base : Heap, (K w.params).In base → base.Ns mainGlobals mg → FnG l.prog w (K w.params) mg base CX0 4 fa fd ["_law_script"] (spLaw (K w.params))) :
    PySem.W.WalkO q loose XP YP l.row.toRowW d [] (fun f vs => PySem.call f vs) :=
  Own.walk_ofG (n := 63) (k := 4) (x := "_law_script") (CX := fun _ => CX0) (sp := fun w => spLaw (K w.params)) hn (by decide) hdf ⟨rfl, by decide, by decide⟩ hY F (fun _ _ a ns hl _ hS => ⟨a, ns, rfl, hS, hl, fun _ => rfl⟩) fun _ _ _ _ _ z => z
end My
open PySem PySem.W PyProof.Rows
set_option maxRecDepth 100000 in
set_option maxHeartbeats 0 in
theorem PySem.Challenge.cw_oneroof_k13_inner_links_holds : PySem.Challenge.rw_oneroof_k13_inner_links.Holds := by
  w_on; o_law; k_head; (case hw => w_witness2)
  k_fill
  refine My.walk (l := PySem.Challenge.rw_oneroof_k13_inner_links) rfl rfl (fun w h Y => PySem.W.kIn_of Y) ?F
  case F =>
    intro w mg fa h KX G hmg
    refine' My.all_mk KX G hmg ?g_inner ?g_was_under ?g_l_cell ?g_l_digits ?g_l_names ?g_l_same ?g_law ?l_inner ?c_inner ?k_inner ?l_was_under ?c_was_under ?k_was_under ?l_l_cell ?c_l_cell ?k_l_cell ?l_l_digits ?c_l_digits ?k_l_digits ?l_l_names ?c_l_names ?k_l_names ?l_l_same ?c_l_same ?k_l_same ?l_law ?c_law ?k_law ?z_len ?z_range ?z_isinstance ?z_repr ?z_dict ?z_sorted ?z_max ?z_min
    case g_inner => k_is
    case g_was_under => k_is
    case g_l_cell => k_is
    case g_l_digits => k_is
    case g_l_names => k_is
    case g_l_same => k_is
    case g_law => k_is
    case l_inner => k_is
    case c_inner => k_is
    case k_inner => k_is
    case l_was_under => k_is
    case c_was_under => k_is
    case k_was_under => k_is
    case l_l_cell => k_is
    case c_l_cell => k_is
    case k_l_cell => k_is
    case l_l_digits => k_is
    case c_l_digits => k_is
    case k_l_digits => k_is
    case l_l_names => k_is
    case c_l_names => k_is
    case k_l_names => k_is
    case l_l_same => k_is
    case c_l_same => k_is
    case k_l_same => k_is
    case l_law => k_is
    case c_law => k_is
    case k_law => k_is
    case z_len => k_is
    case z_range => k_is
    case z_isinstance => k_is
    case z_repr => k_is
    case z_dict => k_is
    case z_sorted => k_is
    case z_max => k_is
    case z_min => k_is
#print axioms PySem.Challenge.cw_oneroof_k13_inner_links_holds
