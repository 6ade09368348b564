import PyProof.Rows.All
import Wide.All
import OpenK.AllK
import Wide.FinOn
import HandS.ForMost
import HandS.Exc
import HandS.OwnEq
import HandS.Gcd
import HandS.RaiseMore
import HandS.IsInst
import HandS.NoneIn
import HandS.FStr
import HandS.Wide
import HandS.Defaults
import HandS.DictComp
import HandS.ListItems
import OpenK.KOps
import PyProof.Rows.RegStrFacts
import PyProof.Rows.ReprOcc
import PySem.Challenge.RW_oneroof_k01_parts_in_lowest_terms
set_option Elab.async false
set_option maxRecDepth 100000
set_option maxHeartbeats 4000000
set_option linter.all false
namespace Own
open PySem PySem.Spec PyProof.Rows L2
section
variable {X : Cx}

/-- what a callee's run gives, told at any room below X -/
theorem run_sub {CX : CXT} {k : Nat} {f : Addr} {fd : FuncData} {ps : List Str} {sp : Sp} {E : XK} {A : Around} {pins : List (Addr × Obj)} {σ : L2.St} {H : Hp} {s : Shared} {R : Value → Shared → Prop} {us : List Value} {vs : List V} {Q : VK}
    (F : FnOk X.prog X.w X.K X.mg X.base CX k f fd ps sp) (sb : Sub X k A) (hb : Binds X.K fd ps []) (hx : Passes CX X E) (I : Inv X pins σ H s) (r : Vals vs us) (h : sp vs H Q E)
    (hR : ∀ v u H' s', Inv X pins σ H' s' → RelV v u → Q v H' → R u s') : wpAny (model X.prog X.w) A (call (.ref f) us) R X.xe s := by
  have e := I.env0
  have e0 : Env0 X.prog X.w X.K X.mg X.base A X.stack s H := ⟨sb.fr.trans e.frames, e.mod, e.bs, e.bsz, e.funs, e.frf, e.hok, e.bare⟩
  have hl : (us ++ []).length = ps.length := by rw [List.append_nil, ← r.length]; exact F.len _ _ _ _ h
  have hb2 := hb s us I.kIn hl
  rw [List.append_nil] at hb2
  refine wpAny_call (codeAny_mono (F.run A X.stack s H ⟨us, []⟩ us vs Q E sb.room e0 hb2 r h) fun z s' hq => ?_)
  cases z with
  | error e => exact hx pins σ H s e s' I hq
  | ok fl =>
    cases fl with
    | ret u =>
      obtain ⟨v, H', I', rv, q⟩ := I.after hq
      exact hR v u H' s' I' rv q
    | next => exact hq.elim
    | brk => exact hq.elim
    | cont => exact hq.elim

/-- repr(o): the class's own __repr__ -/
def rReprI (C : Addr) (sp : Sp) (E : XK) : List V → Hp → VK → Prop := fun vs H Q =>
  ∃ a dx fs, vs = [V.ref a] ∧ H a = some (.ins C dx fs) ∧ sp [.ref a] H (fun v H' => (∃ y, v = .str y) ∧ Q v H') E
theorem call_repr_own {CX : CXT} {k : Nat} {C f : Addr} {fd : FuncData} {ps : List Str} {sp : Sp} {E : XK} (F : FnOk X.prog X.w X.K X.mg X.base CX k f fd ps sp) (hr : Room (k + 1) X.A) (hb : Binds X.K fd ps []) (hx : Passes CX X E)
    (hs : PySem.W.findIn X.K (.ref C) "__repr__" = some (some (.ref f))) (hf : PySem.W.isFn X.K (.ref f) = true) : CallR X (.builtin "repr") (rReprI C sp E) := by
  intro pins s σ H xs us Q I r h
  obtain ⟨a, dx, fs, rfl, ha, h⟩ := h
  obtain ⟨u, rfl, ru⟩ := vals1 r
  obtain rfl : u = Value.ref a := ru
  obtain ⟨mA, J, _⟩ := ins_get I.hok ha
  obtain ⟨od, J, _⟩ := J.look
  obtain ⟨m, hF⟩ := I.fr
  refine PySem.W.repr_K hr.in1.units0 hF I.ok.mod.kin J hs hf ?_
  refine run_sub (A := X.A.in1) (vs := [V.ref a]) F ⟨hr.in1, rfl⟩ hb hx I (.cons (show RelV (V.ref a) (Value.ref a) from rfl) .nil) h fun v u H' s' I' rv q => ?_
  obtain ⟨⟨y, rfl⟩, q⟩ := q
  obtain ⟨t, rfl⟩ := rv
  exact ⟨.str y, H', I', ⟨t, rfl⟩, q⟩

/-- repr of an int, of a text -/
def rReprF : List V → Hp → VK → Prop := fun vs H Q =>
  (∃ i, vs = [V.int i] ∧ i.natAbs.log2 < 1920 ∧ Q (.str (toString i)) H) ∨ ∃ y, vs = [V.str y] ∧ (reprText y).length ≤ sizeLine ∧ Q (.str (reprText y)) H
theorem call_repr_flat : CallR X (.builtin "repr") rReprF := by
  intro pins s σ H xs us Q I r h
  rcases h with ⟨i, rfl, hz, q⟩ | ⟨y, rfl, hz, q⟩
  · exact SkE.call_repr_int pins s σ H _ us Q I r ⟨i, rfl, hz, q⟩
  · obtain ⟨u, rfl, t, rfl⟩ := vals1 r
    exact PySem.P.repr_of_str ⟨.str _, H, I.tok _, ⟨_, rfl⟩, q⟩ hz


theorem typeOf_at {M : Model} {h : Heap} {a : Addr} {o : Obj} (e : h.get? a = some o) : PySem.W.Looks M h (typeOf (.ref a)) o.cls := (PySem.W.Looks.ld e).andThen .now
/-- what the type of such a value is -/
theorem typeOf_ty {pins : List (Addr × Obj)} {σ : L2.St} {H : Hp} {s : Shared} {M : Model} {x : V} {u t : Value} (I : Inv X pins σ H s) (rx : RelV x u) (ty : TyX X.K H x t) : PySem.W.Looks M s.heap (typeOf u) t := by
  cases ty with
  | base b =>
    cases b with
    | non => cases (show u = Value.none from rx); exact .of_pure rfl
    | bl y => cases (show u = Value.bool y from rx); exact .of_pure rfl
    | int i => obtain ⟨t, q⟩ := (show ∃ t, u = Value.int i t from rx); cases q; exact .of_pure rfl
    | str y => obtain ⟨t, q⟩ := (show ∃ t, u = Value.str y t from rx); cases q; exact .of_pure rfl
    | flt y => obtain ⟨t, q⟩ := (show ∃ t, u = Value.float y t from rx); cases q; exact .of_pure rfl
    | @lst a xs ea =>
      cases (show u = Value.ref a from rx)
      obtain ⟨_, _, n, _, h1⟩ := (show ObjOk X.prog X.w H s.heap a (.lst xs) from I.hok a _ ea)
      exact typeOf_at h1
    | @frz a ob xs ea =>
      cases (show u = Value.ref a from rx)
      obtain ⟨_, _, _, n, _, h1⟩ := (show ObjOk X.prog X.w H s.heap a (.frz ob (.lst xs)) from I.hok a _ ea)
      exact typeOf_at h1
    | @tup a xs ea =>
      cases (show u = Value.ref a from rx)
      obtain ⟨_, _, _, o, h1, h2, _⟩ := (show ObjOk X.prog X.w H s.heap a (.tup xs) from I.hok a _ ea)
      exact h2 ▸ typeOf_at h1
    | @dK a kvs ea =>
      cases (show u = Value.ref a from rx)
      obtain ⟨_, _, vs, _, o, es, ep, h1, h2, _⟩ := (show ObjOk X.prog X.w H s.heap a (.dK kvs) from I.hok a _ ea)
      exact h2.1 ▸ typeOf_at h1
    | @dT a kvs ea =>
      cases (show u = Value.ref a from rx)
      obtain ⟨_, _, xs, _, o, es, ep, h1, h2, _⟩ := (show ObjOk X.prog X.w H s.heap a (.dT kvs) from I.hok a _ ea)
      exact h2.1 ▸ typeOf_at h1
    | @ins a C dx fs ea cl ha hn htk hm =>
      cases (show u = Value.ref a from rx)
      obtain ⟨mA, O, _⟩ := ins_get I.hok ea
      obtain ⟨od, J, _⟩ := O.look
      exact J.type
  | byt y => obtain ⟨t, q⟩ := (show ∃ t, u = Value.bytes y t from rx); cases q; exact .of_pure rfl
  | @set a S n ea =>
    cases (show u = Value.ref a from rx)
    obtain ⟨o, _, _, _, e, ex, _⟩ := I.hok a _ ea
    exact ex.1 ▸ typeOf_at e
  | @kList a o e c =>
    cases (show u = Value.ref a from rx)
    exact c ▸ typeOf_at (I.kIn a o e)
  | @kTuple a o e c =>
    cases (show u = Value.ref a from rx)
    exact c ▸ typeOf_at (I.kIn a o e)
  | @kDict a o e c =>
    cases (show u = Value.ref a from rx)
    exact c ▸ typeOf_at (I.kIn a o e)
  | @fTuple a ob xs ea =>
    cases (show u = Value.ref a from rx)
    obtain ⟨_, _, _, _, o, h1, h2, _⟩ := (show ObjOk X.prog X.w H s.heap a (.frz ob (.tup xs)) from I.hok a _ ea)
    exact h2 ▸ typeOf_at h1
  | @fDict a ob kvs ea =>
    cases (show u = Value.ref a from rx)
    obtain ⟨_, _, _, vs, _, o, es, ep, h1, h2, _⟩ := (show ObjOk X.prog X.w H s.heap a (.frz ob (.dK kvs)) from I.hok a _ ea)
    exact h2.1 ▸ typeOf_at h1

/-- a == b by the left one's own __eq__: b of a type that is no subclass of a's class -/
def rEqI (K : PySem.W.Frag) (C : Addr) (sp : Sp) (E : XK) (g : Bool → V) : R2 := fun x y H Q =>
  ∃ a dx fs t, x = V.ref a ∧ H a = some (.ins C dx fs) ∧ TyX K H y t ∧ PySem.W.notFirst K C t = true ∧ sp [.ref a, y] H (fun v H' => ∃ b, v = .bl b ∧ Q (g b) H') E
theorem op_eq_own {CX : CXT} {k : Nat} {C f : Addr} {fd : FuncData} {ps : List Str} {sp : Sp} {E : XK} (F : FnOk X.prog X.w X.K X.mg X.base CX k f fd ps sp) (hr : Room k X.A) (hb : Binds X.K fd ps []) (hx : Passes CX X E)
    (hs : PySem.W.findIn X.K (.ref C) "__eq__" = some (some (.ref f))) (hf : PySem.W.isFn X.K (.ref f) = true) : OpR X (compareOp .Eq) (rEqI X.K C sp E V.bl) := by
  intro pins s σ H x y v u Q I rx ry h
  obtain ⟨a, dx, fs, t, rfl, ha, ty, nf, h⟩ := h
  obtain rfl : v = Value.ref a := rx
  obtain ⟨mA, J, _⟩ := ins_get I.hok ha
  obtain ⟨od, J, _⟩ := J.look
  obtain ⟨m, hF⟩ := I.fr
  show wpAny _ _ (richCompare .Eq (.ref a) u) _ _ _
  refine PySem.W.cmp_K (op := .Eq) hr.units0 hF I.ok.mod.kin J (typeOf_ty I ry ty) nf hs hf ?_
  refine run_sub (vs := [V.ref a, y]) F ⟨hr, rfl⟩ hb hx I (.cons (show RelV (V.ref a) (Value.ref a) from rfl) (.cons ry .nil)) h fun v u H' s' I' rv q => ?_
  obtain ⟨b, rfl, q⟩ := q
  obtain rfl : u = Value.bool b := rv
  exact ⟨.bl b, H', I', rfl, q⟩

/-- a slot that the class has from object: found, bound, called -/
theorem ifBound_B {M : Model} {A : Around} {E : Value → Shared → Prop} {s : Shared} {K : PySem.W.Frag} {x C : Addr} {ox : Obj} {od : Option Obj} {name : Str} {id : String} {args : List Value} {Q : Option Value → Shared → Prop} (X : K.In s.heap) (I : PySem.W.InstAt s.heap x ox C od)
    (hs : PySem.W.findIn K (.ref C) name = some (some (.builtin id))) (hb : ∀ self, bindSpecial (.builtin id) self = pure (.builtin id, [self]))
    (h : wpAny M A (call (.builtin id) (.ref x :: args)) (fun v => Q (some v)) E s) : wpAny M A (callSpecialIfBound? (.ref x) name args) Q E s := by
  have fin : wpAny M A (call (.builtin id) ([.ref x] ++ args) >>= fun v => pure (some v)) Q E s := wpAny_bind (wpAny_mono h (fun v s' h' => wpAny_pure h') fun _ _ h' => h')
  simp only [callSpecialIfBound?, bindSpecialIfBound?]
  refine wpAny_holding (wpAny_bind (wpAny_bind (wpAny_bind (I.type.here ((PySem.W.looks_findIn X hs).here ?_)))))
  refine wpAny_bind (wpAny_askSetting (wpAny_ite ?_))
  split
  · exact wpAny_bind ((PySem.W.Looks.of_pure (hb _)).here (wpAny_pure (by exact fin)))
  · exact wpAny_tryCatch (wpAny_bind ((PySem.W.Looks.of_pure (hb _)).here (wpAny_pure (by exact fin))))
/-- a != b where the class has __eq__ alone: object's __ne__ asks it -/
theorem ne_own {prog : Program} {w : World} {A : Around} {E : Value → Shared → Prop} {s : Shared} {K : PySem.W.Frag} {x C f : Addr} {ox : Obj} {od : Option Obj} {b tb : Value} {Q : Value → Shared → Prop} (hu : A.in1.units < cLine) (X : K.In s.heap) (I : PySem.W.InstAt s.heap x ox C od)
    (hb : PySem.W.Looks (model prog w) s.heap (typeOf b) tb) (hn : PySem.W.notFirst K C tb = true) (hne : PySem.W.findIn K (.ref C) "__ne__" = some (some (.builtin "object.__ne__"))) (hm : PySem.W.mroIn K C (.type "object") = some true)
    (hs : PySem.W.findIn K (.ref C) "__eq__" = some (some (.ref f))) (hf : PySem.W.isFn K (.ref f) = true)
    (h : wpAny (model prog w) A.in1 (call (.ref f) [.ref x, b]) (fun v s' => ∃ k, v = .bool k ∧ Q (.bool (!k)) s') E s) : wpAny (model prog w) A (richCompare .NotEq (.ref x) b) Q E s := by
  have hu0 : A.units < cLine := Nat.lt_of_succ_lt hu
  have body : wpAny (model prog w) A (call (.builtin "object.__ne__") [.ref x, b]) (fun v s' => ∃ k, v = .bool k ∧ Q v s') E s := by
    refine wpAny_call (codeAny_call_builtin PySem.F.slot_object_ne.plain PySem.F.entry_object_ne (PySem.W.check_slot (i := "object.__ne__") (owner := "object") (n := "__ne__") (by decide +kernel) (by decide +kernel) (I.type.andThen (PySem.W.looks_mroIn X hm)) (PySem.F.args_object_ne_2 _ _) ?_))
    unfold Builtin.«object.__ne__»
    refine wpAny_bind (m := PySem.slotArgs "__ne__" 1 _) (wpAny_pure ?_)
    refine wpAny_bind (m := cRoomFor _ _) (wpAny_cRoomFor hu ?_)
    refine wpAny_bind (m := callSpecialIfBound? (.ref x) (Str.ofString "__eq__") _) (PySem.W.ifBound_K X I hs hf (wpAny_mono h (fun v s' hv => ?_) fun _ _ e => e))
    obtain ⟨k, rfl, q⟩ := hv
    exact wpAny_bind (wpAny_truthy_bool (wpAny_pure ⟨_, rfl, q⟩))
  have one : wpAny (model prog w) A (tryCompare (.ref x) (cmpInfo .NotEq).2.1 b) (fun r s' => ∃ v, r = some v ∧ Q v s') E s := by
    unfold tryCompare
    refine wpAny_bind (ifBound_B X I hne PySem.F.slot_object_ne.bind (wpAny_mono body (fun v s' hv => ?_) fun _ _ e => e))
    obtain ⟨k, rfl, q⟩ := hv
    exact wpAny_pure ⟨_, rfl, q⟩
  have fin : ∀ {r : Option Value} {s' : Shared}, (∃ v, r = some v ∧ Q v s') → ∃ v, r = some v ∧ Q v s' := fun z => z
  unfold richCompare
  simp only [PySem.oneThing_ref]
  refine wpAny_holding (wpAny_bind (wpAny_cRoomFor hu0 ?_))
  refine wpAny_bind (I.type.here (wpAny_bind (hb.here ?_)))
  split
  · rename_i q
    have e : PySem.W.subIn K tb (.ref C) = some false := by
      rcases Bool.or_eq_true_iff.mp hn with e | e
      · rw [beq_iff_eq.mp e] at q; simp at q
      · exact beq_iff_eq.mp e
    refine wpAny_bind ((PySem.W.looks_subIn X e).here ?_)
    simp only [Bool.false_eq_true, if_false]
    refine wpAny_bind (wpAny_mono one (fun r s' z => ?_) fun _ _ e => e)
    obtain ⟨v, rfl, hq⟩ := z
    exact wpAny_pure hq
  · refine wpAny_bind (wpAny_pure ?_)
    simp only [Bool.false_eq_true, if_false]
    refine wpAny_bind (wpAny_mono one (fun r s' z => ?_) fun _ _ e => e)
    obtain ⟨v, rfl, hq⟩ := z
    exact wpAny_pure hq
theorem op_ne_own {CX : CXT} {k : Nat} {C f : Addr} {fd : FuncData} {ps : List Str} {sp : Sp} {E : XK} (F : FnOk X.prog X.w X.K X.mg X.base CX k f fd ps sp) (hr : Room (k + 1) X.A) (hb : Binds X.K fd ps []) (hx : Passes CX X E)
    (hs : PySem.W.findIn X.K (.ref C) "__eq__" = some (some (.ref f))) (hf : PySem.W.isFn X.K (.ref f) = true)
    (hne : PySem.W.findIn X.K (.ref C) "__ne__" = some (some (.builtin "object.__ne__"))) (hm : PySem.W.mroIn X.K C (.type "object") = some true) : OpR X (compareOp .NotEq) (rEqI X.K C sp E fun b => V.bl (!b)) := by
  intro pins s σ H x y v u Q I rx ry h
  obtain ⟨a, dx, fs, t, rfl, ha, ty, nf, h⟩ := h
  obtain rfl : v = Value.ref a := rx
  obtain ⟨mA, J, _⟩ := ins_get I.hok ha
  obtain ⟨od, J, _⟩ := J.look
  show wpAny _ _ (richCompare .NotEq (.ref a) u) _ _ _
  refine ne_own hr.in1.units0 I.kIn J (typeOf_ty I ry ty) nf hne hm hs hf ?_
  refine run_sub (A := X.A.in1) (vs := [V.ref a, y]) F ⟨hr.in1, rfl⟩ hb hx I (.cons (show RelV (V.ref a) (Value.ref a) from rfl) (.cons ry .nil)) h fun v u H' s' I' rv q => ?_
  obtain ⟨b, rfl, q⟩ := q
  obtain rfl : u = Value.bool b := rv
  exact ⟨b, rfl, .bl (!b), H', I', rfl, q⟩

/-- // by any number that is not nought, both below 2 ^ 9000 -/
def CDivA (_ j : Int) : Prop := j ≠ 0 ∧ j.natAbs.log2 < 9000
theorem op_fdivA : OpR X (binaryOp .FloorDiv) (rI CDivA fun i j => .int (i.fdiv j)) := opI fun i j _ _ _ _ _ hc q =>
  floordiv_int hc.1 q (.inl (PyProof.noPylong_of_log2 hc.2))
end
end Own

set_option Elab.async false
set_option maxRecDepth 100000
set_option maxHeartbeats 4000000
set_option linter.all false
namespace Own
open PySem PySem.Spec PyProof.Rows L2
/-! places of lists -/
theorem atI_lt {α : Type} {xs : List α} {k : Int} (h0 : 0 ≤ k) (h1 : k < xs.length) : ∃ v, xs[k.toNat]? = some v ∧ atI xs k = some v := by
  have hk : k.toNat < xs.length := by omega
  refine ⟨xs[k.toNat], List.getElem?_eq_getElem hk, ?_⟩
  unfold atI ixN
  rw [if_pos h0, if_pos h1]
  exact List.getElem?_eq_getElem hk
theorem atI_map {α β : Type} {f : α → β} {xs : List α} {k : Int} {v : α} (h : atI xs k = some v) : atI (xs.map f) k = some (f v) := by
  unfold atI at h ⊢
  rw [List.length_map]
  cases e : ixN xs.length k with
  | none => rw [e] at h; cases h
  | some j =>
    rw [e] at h
    have h : xs[j]? = some v := h
    show (xs.map f)[j]? = some (f v)
    rw [List.getElem?_map, h]
    rfl
theorem atI_nat {α : Type} {xs : List α} {j : Nat} {v : α} (h : xs[j]? = some v) : atI xs (j : Int) = some v := by
  have hj := (List.getElem?_eq_some_iff.mp h).1
  obtain ⟨w, h1, h2⟩ := atI_lt (xs := xs) (k := (j : Int)) (by omega) (by omega)
  rw [Int.toNat_natCast, h] at h1
  rw [h2, ← h1]
theorem pick4 {P : Int → Prop} {a b c d k : Int} (h0 : 0 ≤ k) (h1 : k < 4) (ha : P a) (hb : P b) (hc : P c) (hd : P d) : ∃ v, atI [V.int a, .int b, .int c, .int d] k = some (.int v) ∧ P v := by
  rcases (by omega : k = 0 ∨ k = 1 ∨ k = 2 ∨ k = 3) with rfl | rfl | rfl | rfl
  · exact ⟨a, rfl, ha⟩
  · exact ⟨b, rfl, hb⟩
  · exact ⟨c, rfl, hc⟩
  · exact ⟨d, rfl, hd⟩
/-- the two places of a pair -/
theorem atI_0 {α : Type} {x : α} {xs : List α} : atI (x :: xs) 0 = some x := Own.atI_nat (j := 0) rfl
theorem atI_1 {α : Type} {x y : α} {xs : List α} : atI (x :: y :: xs) 1 = some y := Own.atI_nat (j := 1) rfl
theorem drawn5 {ds : List Int} {a b c d e : Int} (h : Paired (fun d z => 0 ≤ d ∧ d < z) ds [a, b, c, d, e]) : ∃ v w x y z : Int, ds = [v, w, x, y, z] ∧ (0 ≤ v ∧ v < a) ∧ (0 ≤ w ∧ w < b) ∧ (0 ≤ x ∧ x < c) ∧ (0 ≤ y ∧ y < d) ∧ (0 ≤ z ∧ z < e) := by
  cases h with
  | cons h1 h => cases h with
    | cons h2 h => cases h with
      | cons h3 h => cases h with
        | cons h4 h => cases h with
          | cons h5 h => cases h with
            | nil => exact ⟨_, _, _, _, _, rfl, h1, h2, h3, h4, h5⟩
/-! products -/
theorem mulWn {i j : Int} (n m : Nat) (hi : i.natAbs < 2 ^ n) (hj : j.natAbs < 2 ^ m) (h0 : 0 < n) (h1 : 0 < m) (h : n + m ≤ 1000000) : CMulW i j := wide_mul hi hj h0 h1 h
theorem mulW64 {i j : Int} (hi : i.natAbs < 2 ^ 64) (hj : j.natAbs < 2 ^ 64) : CMulW i j := wide_mul hi hj (by decide) (by decide) (by decide)
theorem mul_lt {i j : Int} (n m : Nat) (hi : i.natAbs < 2 ^ n) (hj : j.natAbs < 2 ^ m) : (i * j).natAbs < 2 ^ (n + m) := wide_lt hi hj
theorem divA_of {i j : Int} (n : Nat) (h : j ≠ 0) (hj : j.natAbs < 2 ^ n) (h0 : 0 < n) (h9 : n ≤ 9000) : CDivA i j := ⟨h, Nat.lt_of_lt_of_le (PySem.Flt.log2_lt_of h0 hj) h9⟩
theorem log2_of {i : Int} (h : i.natAbs < 2 ^ 1920) : i.natAbs.log2 < 1920 := PySem.Flt.log2_lt_of (by decide) h
/-! loops -/
section
variable {K : PySem.W.Frag} {a : Addr} {xs : List V} {g : TG} {tb : TS} {D : Ends} {σ : L2.St} {H : Hp}
theorem for_listI {j : Nat} (hv : σ[j]? = some (some (.ref a))) (hq : SqL K H a xs) (Pv : Nat → L2.St → Hp → Prop) (h0 : Pv 0 σ H) (hl : ∀ i σ H, i ≤ xs.length → Pv i σ H → SqL K H a xs)
    (hs : ∀ i x σ H, xs[i]? = some x → Pv i σ H → g x σ H fun σ2 H2 => tb { D with nx := Pv (i + 1), ct := Pv (i + 1), bk := D.nx } σ2 H2) (hd : ∀ σ H, Pv xs.length σ H → D.nx σ H) : tFor (iList K (tVar j)) g tb D σ H :=
  ⟨_, hv, a, rfl, ⟨_, hq⟩, for_list Pv h0 hl hs hd⟩
theorem for_rangeI {ta : TA} {n : Int} (hta : ∀ R : List V → Hp → Prop, R [.int n] H → ta σ H R) (h1 : 0 ≤ n) (h2 : n < 2 ^ 62) (Pv : Nat → L2.St → Hp → Prop) (h0 : Pv 0 σ H)
    (hs : ∀ (i : Nat) σ H, i < n.toNat → Pv i σ H → g (.int (0 + (i : Int))) σ H fun σ2 H2 => tb { D with nx := Pv (i + 1), ct := Pv (i + 1), bk := D.nx } σ2 H2) (hd : ∀ σ H, Pv n.toNat σ H → D.nx σ H) : tFor (iRng1 ta) g tb D σ H :=
  hta _ ⟨n, rfl, by omega, h2, for_range Pv h0 hs hd⟩
end
theorem seq_i {t u : TS} {D : Ends} {σ : L2.St} {H : Hp} (h : ∀ N : L2.St → Hp → Prop, (∀ σ H, u D σ H → N σ H) → t { D with nx := N } σ H) : tSeq t u D σ H := h _ fun _ _ x => x
/-! the heap grows -/
theorem alloc {H H1 : Hp} {p : Addr} {o : HO} (hp : H p = none) (h : L2.upd H p o = H1) : Ext H H1 ∧ H1 p = some o := by
  subst h
  exact ⟨Ext.upd hp, upd_same⟩
theorem upd_ext {H H1 : Hp} {p : Addr} {o : HO} (e : Ext H H1) (hp : H p = none) : Ext H (L2.upd H1 p o) := fun b u h => by
  rw [upd_ne (ne_of_none h hp)]
  exact e b u h
theorem Ext.refl' (H : Hp) : Ext H H := fun _ _ h => h
theorem seqL {K : PySem.W.Frag} {H H1 : Hp} {a : Addr} {xs : List V} (h : SqL K H a xs) (e : Ext H H1) : SqL K H1 a xs := SqL.ext h e
theorem ofL {K : PySem.W.Frag} {H : Hp} {a : Addr} {xs : List V} (h : H a = some (.lst xs)) : SqL K H a xs := .inl (.inl h)
theorem ofT {K : PySem.W.Frag} {H : Hp} {a : Addr} {xs : List V} (h : H a = some (.tup xs)) : SqT K H a xs := .inl (.inl h)
/-! a slice of ints is ints -/
theorem cut_ints (ns : List Int) (lo hi : Option Int) : ∃ ms : List Int, cutV (ns.map V.int) lo hi = ms.map V.int ∧ ms.length ≤ ns.length := by
  refine ⟨(ns.drop (HT.sIx (ns.map V.int).length 0 lo)).take (HT.sIx (ns.map V.int).length (ns.map V.int).length hi - HT.sIx (ns.map V.int).length 0 lo), ?_, ?_⟩
  · unfold cutV
    rw [List.map_take, List.map_drop]
  · rw [List.length_take, List.length_drop]
    omega
/-! drawn numbers -/
abbrev Drawn (ds szs : List Int) : Prop := Paired (fun d z => 0 ≤ d ∧ d < z) ds szs
theorem take_snoc {α : Type} {xs : List α} {i : Nat} {x : α} (h : xs[i]? = some x) : xs.take (i + 1) = xs.take i ++ [x] := by
  rw [List.take_add_one, h]
  rfl
theorem tyLst {K : PySem.W.Frag} {H : Hp} {p : Addr} {xs : List V} (h : H p = some (.lst xs)) : tyV K "list" (.ref p) H := .inl ⟨rfl, _, .inl (.inl h)⟩
/-- a def with defaults that lets nothing out -/
theorem okD {P : Program} {w : World} {K : PySem.W.Frag} {mg : Str → Option Value} {base : Heap} {x qual : Str} {params : Arguments} {body : List Stmt} {scope : Scope} {dvs : List V} {kws : List (Str × V)} {f : Addr} {fd : FuncData} {N ps : List Str} {k : Nat} {sp : Sp}
    (F : FunD K x qual params body scope dvs kws f fd) (S : FnScope N ps scope) (len : ∀ vs H Q E, sp vs H Q E → vs.length = ps.length)
    (hbody : ∀ (cdv : Value) (A : Around) (outer : List Env) (s : Shared) (H : Hp) (vs : List V) (Q : VK) (E : XK), Room k (A.deeper (envOfC qual scope s.heap.objs.size f cdv)) → sp vs H Q E →
      ∃ t, PSs (cxOf CX0 P w K mg base N qual scope f cdv A outer s H E).nox body t ∧ t { nx := fun _ H' => Q .non H', rt := Q } (L2.start N vs) H) : FnOk P w K mg base CX0 (k + 1) f fd ps sp :=
  F.ok S len fun cdv A outer s H vs Q E hr h => by
    obtain ⟨t, h1, h2⟩ := hbody cdv A outer s H vs Q E hr h
    exact ⟨t, h1.nox, h2⟩
/-- what is never reached -/
theorem pe_never {X : Cx} {e : Expr} : PE X e (fun _ _ _ => False) := ⟨fun _ _ _ _ _ _ h => h.elim⟩
/-- an instance made: its dict, itself, its fields -/
theorem makeP {H H1 : Hp} {x dx C : Addr} {fs0 fs : List (Str × V)} (hx : H x = none) (hd : H dx = none) (h : L2.upd (L2.upd (L2.upd H dx (.own x)) x (.ins C dx fs0)) x (.ins C dx fs) = H1) : Ext H H1 ∧ H1 x = some (.ins C dx fs) := by
  subst h
  exact ⟨upd_ext (upd_ext (Ext.upd hd) hx) hx, upd_same⟩
/-! isinstance against an own class -/
theorem kit_self {K : PySem.W.Frag} {C : Addr} : PySem.W.kitOne K (.ref C) (.ref C) = some true := by
  unfold PySem.W.kitOne
  rw [if_pos (by simp)]
theorem kit_cls_of {K : PySem.W.Frag} {C : Addr} {t : Value} {b : Bool} (h1 : PySem.W.isClsIn K C = true) (h2 : PySem.W.typeIn K (.ref C) = some (.type "type")) (h3 : PySem.W.subIn K t (.ref C) = some b) : PySem.W.kitCls K t (.ref C) = some b := by
  unfold PySem.W.kitCls
  unfold PySem.W.isClsIn at h1
  show (if ((PySem.W.clsIn K C).isSome && PySem.W.typeIn K (.ref C) == some (.type "type")) = true then PySem.W.subIn K t (.ref C) else none) = some b
  rw [h1, h2, if_pos (by simp), h3]
theorem kit_own {K : PySem.W.Frag} {C D : Addr} {b : Bool} (h1 : PySem.W.isClsIn K C = true) (h2 : PySem.W.typeIn K (.ref C) = some (.type "type")) (h3 : PySem.W.subIn K (.ref D) (.ref C) = some b) (hne : ¬ D = C) : PySem.W.kitOne K (.ref D) (.ref C) = some b := by
  unfold PySem.W.kitOne
  rw [if_neg (by simpa using hne)]
  exact kit_cls_of h1 h2 h3
theorem kit_ty {K : PySem.W.Frag} {C : Addr} {n : String} {b : Bool} (h1 : PySem.W.isClsIn K C = true) (h2 : PySem.W.typeIn K (.ref C) = some (.type "type")) (h3 : PySem.W.subIn K (.type n) (.ref C) = some b) : PySem.W.kitOne K (.type n) (.ref C) = some b := by
  unfold PySem.W.kitOne
  rw [if_neg (by simp)]
  exact kit_cls_of h1 h2 h3
/-! fields -/
theorem lookup_ne {f g : Str} {v : V} {fs : List (Str × V)} (h : ¬ g = f) : (putF f v fs).lookup g = fs.lookup g := by rw [lookup_putF, if_neg h]
theorem lookup_eq {f : Str} {v : V} {fs : List (Str × V)} : (putF f v fs).lookup f = some v := by rw [lookup_putF, if_pos rfl]
/-- the fields of a Part -/
def fsP (t l : Int) : List (Str × V) := putF "low" (.int l) (putF "top" (.int t) [])
theorem fsP_top (t l : Int) : (fsP t l).lookup ("top" : Str) = some (.int t) := by
  unfold fsP
  rw [lookup_ne (by decide +kernel), lookup_eq]
theorem fsP_low (t l : Int) : (fsP t l).lookup ("low" : Str) = some (.int l) := lookup_eq
theorem fsP_no (t l : Int) {m : Str} (h1 : ¬ m = "top") (h2 : ¬ m = "low") : (fsP t l).lookup m = none := by
  unfold fsP
  rw [lookup_ne h2, lookup_ne h1]
  rfl
/-- a Part at p -/
def PartAt (C : Addr) (H : Hp) (p : Addr) (t l : Int) : Prop := ∃ dx, H p = some (.ins C dx (fsP t l))
theorem PartAt.ext {C : Addr} {H H1 : Hp} {p : Addr} {t l : Int} (h : PartAt C H p t l) (e : Ext H H1) : PartAt C H1 p t l := let ⟨dx, h⟩ := h; ⟨dx, e _ _ h⟩
def sgn (t : Int) : Int := if t = 0 then 0 else if 0 < t then 1 else -1
/-- how a fraction shows -/
def showP (t l : Int) : Str := if l = 1 then ((toString t : String) : Str) else (((toString t : String) : Str) ++ (Str.ofString "/")) ++ ((toString l : String) : Str)
/-! fractions -/
def gcdI (t l : Int) : Int := ((Nat.gcd t.natAbs l.natAbs : Nat) : Int)
def fracT (t l : Int) : Int := ((if 0 < l then 1 else -1) * t) / gcdI t l
def fracL (t l : Int) : Int := (l.natAbs : Int) / gcdI t l
theorem gcdI_pos {t l : Int} (h : l ≠ 0) : 0 < gcdI t l := by
  unfold gcdI
  have : 0 < Nat.gcd t.natAbs l.natAbs := Nat.gcd_pos_of_pos_right _ (by omega)
  omega
theorem gcdI_le {t l : Int} (h : l ≠ 0) : (gcdI t l).natAbs ≤ l.natAbs := by
  unfold gcdI
  rw [Int.natAbs_natCast]
  exact Nat.le_of_dvd (by omega) (Nat.gcd_dvd_right _ _)
theorem gcdI_dvd_t (t l : Int) : gcdI t l ∣ t := Int.ofNat_dvd_left.mpr (Nat.gcd_dvd_left _ _)
theorem gcdI_dvd_l (t l : Int) : gcdI t l ∣ l := Int.ofNat_dvd_left.mpr (Nat.gcd_dvd_right _ _)
theorem fdiv_neg_dvd {t g : Int} (h : g ∣ t) : t.fdiv (-g) = -(t / g) := by
  rw [Int.fdiv_eq_ediv_of_dvd (Int.neg_dvd.mpr h), Int.ediv_neg]
theorem frac_pos {t l : Int} (h : 0 < l) : t.fdiv (gcdI t l) = fracT t l ∧ l.fdiv (gcdI t l) = fracL t l := by
  refine ⟨?_, ?_⟩
  · unfold fracT
    rw [if_pos h, Int.one_mul, Int.fdiv_eq_ediv_of_dvd (gcdI_dvd_t t l)]
  · unfold fracL
    rw [Int.fdiv_eq_ediv_of_dvd (gcdI_dvd_l t l), Int.natAbs_of_nonneg (by omega)]
theorem frac_neg {t l : Int} (h : l < 0) : t.fdiv (-gcdI t l) = fracT t l ∧ l.fdiv (-gcdI t l) = fracL t l := by
  refine ⟨?_, ?_⟩
  · unfold fracT
    rw [if_neg (by omega), fdiv_neg_dvd (gcdI_dvd_t t l), Int.neg_mul, Int.one_mul, Int.neg_ediv_of_dvd (gcdI_dvd_t t l)]
  · unfold fracL
    rw [fdiv_neg_dvd (gcdI_dvd_l t l), ← Int.neg_ediv_of_dvd (gcdI_dvd_l t l)]
    congr 1
    omega
theorem gcdI_scale {k : Int} (hk : 0 < k) (t l : Int) : gcdI (t * k) (l * k) = gcdI t l * k := by
  unfold gcdI
  rw [Int.natAbs_mul, Int.natAbs_mul, Nat.gcd_mul_right, Int.natCast_mul, Int.natAbs_of_nonneg (by omega)]
theorem frac_scale {k : Int} (hk : 0 < k) (t l : Int) : fracT (t * k) (l * k) = fracT t l ∧ fracL (t * k) (l * k) = fracL t l := by
  have hs : (0 < l * k) ↔ (0 < l) := by
    constructor
    · intro h
      rcases Int.lt_trichotomy l 0 with h1 | h1 | h1
      · have := Int.mul_neg_of_neg_of_pos h1 hk
        omega
      · subst h1; omega
      · exact h1
    · exact fun h => Int.mul_pos h hk
  refine ⟨?_, ?_⟩
  · unfold fracT
    rw [gcdI_scale hk, ← Int.mul_assoc]
    have e : (if 0 < l * k then (1 : Int) else -1) = if 0 < l then 1 else -1 := by
      by_cases h : 0 < l
      · rw [if_pos h, if_pos (hs.mpr h)]
      · rw [if_neg h, if_neg (fun z => h (hs.mp z))]
    rw [e]
    exact Int.mul_ediv_mul_of_pos_left _ _ hk
  · unfold fracL
    rw [gcdI_scale hk, Int.natAbs_mul, Int.natCast_mul, Int.natAbs_of_nonneg (a := k) (by omega)]
    exact Int.mul_ediv_mul_of_pos_left _ _ hk
theorem fracL_pos {t l : Int} (h : l ≠ 0) : 0 < fracL t l := by
  unfold fracL
  have hd : gcdI t l ∣ (l.natAbs : Int) := Int.ofNat_dvd_left.mpr (by rw [Int.natAbs_natCast]; exact Nat.gcd_dvd_right _ _)
  obtain ⟨c, hc⟩ := hd
  have hg := gcdI_pos (t := t) h
  rw [hc, Int.mul_ediv_cancel_left _ (by omega)]
  have h2 : 0 < c * gcdI t l := by rw [Int.mul_comm, ← hc]; omega
  exact Int.pos_of_mul_pos_left h2 hg
/-- a fraction by its two quotients: t = g c, l = g d -/
theorem frac_split {t l : Int} (h : l ≠ 0) : ∃ g c d : Int, 0 < g ∧ t = g * c ∧ l = g * d ∧ ((0 < l ∧ fracT t l = c ∧ fracL t l = d) ∨ (l < 0 ∧ fracT t l = -c ∧ fracL t l = -d)) := by
  have hg := gcdI_pos (t := t) h
  obtain ⟨c, hc⟩ := gcdI_dvd_t t l
  obtain ⟨d, hd⟩ := gcdI_dvd_l t l
  have e1 : t / gcdI t l = c := by
    conv => lhs; lhs; rw [hc]
    exact Int.mul_ediv_cancel_left _ (by omega)
  have e2 : l / gcdI t l = d := by
    conv => lhs; lhs; rw [hd]
    exact Int.mul_ediv_cancel_left _ (by omega)
  refine ⟨gcdI t l, c, d, hg, hc, hd, ?_⟩
  rcases Int.lt_trichotomy l 0 with h1 | h1 | h1
  · refine .inr ⟨h1, ?_, ?_⟩
    · rw [← (frac_neg h1).1, fdiv_neg_dvd (gcdI_dvd_t t l), e1]
    · rw [← (frac_neg h1).2, fdiv_neg_dvd (gcdI_dvd_l t l), e2]
  · exact absurd h1 h
  · refine .inl ⟨h1, ?_, ?_⟩
    · rw [← (frac_pos h1).1, Int.fdiv_eq_ediv_of_dvd (gcdI_dvd_t t l), e1]
    · rw [← (frac_pos h1).2, Int.fdiv_eq_ediv_of_dvd (gcdI_dvd_l t l), e2]
theorem frac_cross {t l : Int} (h : l ≠ 0) : fracT t l * l = t * fracL t l := by
  obtain ⟨g, c, d, _, h1, h2, h3⟩ := frac_split (t := t) h
  rcases h3 with ⟨_, e1, e2⟩ | ⟨_, e1, e2⟩
  · rw [e1, e2]
    conv => lhs; rw [h2]
    conv => rhs; rw [h1]
    rw [Int.mul_left_comm, Int.mul_assoc]
  · rw [e1, e2]
    conv => lhs; rw [h2]
    conv => rhs; rw [h1]
    rw [Int.mul_left_comm, Int.neg_mul, Int.mul_neg, Int.mul_neg, Int.mul_assoc]
theorem fracT_le {t l : Int} (h : l ≠ 0) : (fracT t l).natAbs ≤ t.natAbs := by
  obtain ⟨g, c, d, hg, h1, h2, h3⟩ := frac_split (t := t) h
  have e : (fracT t l).natAbs = c.natAbs := by
    rcases h3 with ⟨_, e1, _⟩ | ⟨_, e1, _⟩
    · rw [e1]
    · rw [e1, Int.natAbs_neg]
  have e2 : t.natAbs = g.natAbs * c.natAbs := by
    conv => lhs; rw [h1]
    exact Int.natAbs_mul _ _
  rw [e, e2]
  exact Nat.le_mul_of_pos_left _ (by omega)
theorem fracL_le {t l : Int} (h : l ≠ 0) : (fracL t l).natAbs ≤ l.natAbs := by
  obtain ⟨g, c, d, hg, h1, h2, h3⟩ := frac_split (t := t) h
  have e : (fracL t l).natAbs = d.natAbs := by
    rcases h3 with ⟨_, _, e1⟩ | ⟨_, _, e1⟩
    · rw [e1]
    · rw [e1, Int.natAbs_neg]
  have e2 : l.natAbs = g.natAbs * d.natAbs := by
    conv => lhs; rw [h2]
    exact Int.natAbs_mul _ _
  rw [e, e2]
  exact Nat.le_mul_of_pos_left _ (by omega)
theorem fracT_zero {t l : Int} (h : l ≠ 0) : fracT t l = 0 ↔ t = 0 := by
  have hc := frac_cross (t := t) h
  have hL := fracL_pos (t := t) h
  constructor
  · intro z
    rw [z, Int.zero_mul] at hc
    rcases Int.mul_eq_zero.mp hc.symm with z | z
    · exact z
    · omega
  · intro z
    rw [z, Int.zero_mul] at hc
    rcases Int.mul_eq_zero.mp hc with z | z
    · rw [← z, ‹t = 0›]
    · exact absurd z h
theorem frac_neg_neg {t l : Int} (h : l ≠ 0) : fracT (-t) (-l) = fracT t l ∧ fracL (-t) (-l) = fracL t l := by
  have eg : gcdI (-t) (-l) = gcdI t l := by
    unfold gcdI
    rw [Int.natAbs_neg, Int.natAbs_neg]
  refine ⟨?_, ?_⟩
  · unfold fracT
    rw [eg]
    congr 1
    by_cases h1 : 0 < l
    · rw [if_pos h1, if_neg (by omega)]
      omega
    · rw [if_neg h1, if_pos (by omega)]
      omega
  · unfold fracL
    rw [eg, Int.natAbs_neg]
/-- T/L is not (T + L)/L, nor (2T + 1)/2L -/
theorem frac_other1 {T L : Int} (hL : 0 < L) : ¬ (T = fracT (T + L) L ∧ L = fracL (T + L) L) := by
  rintro ⟨h1, h2⟩
  have hc := frac_cross (t := T + L) (l := L) (by omega)
  rw [← h1, ← h2, Int.add_mul] at hc
  have : 0 < L * L := Int.mul_pos hL hL
  omega
theorem frac_other2 {T L : Int} (hL : 0 < L) : ¬ (T = fracT (T * 2 + 1) (L * 2) ∧ L = fracL (T * 2 + 1) (L * 2)) := by
  rintro ⟨h1, h2⟩
  have hc := frac_cross (t := T * 2 + 1) (l := L * 2) (by omega)
  rw [← h1, ← h2, Int.add_mul, Int.mul_assoc T 2 L, Int.mul_comm 2 L] at hc
  omega
/-! texts of numbers -/
theorem int_text_len {i : Int} (h : i.natAbs.log2 < 1920) : ((toString i : String) : Str).length ≤ 1921 := PyProof.Rows.int_text_len_1921 h
theorem int_text_low {i : Int} : ∀ c ∈ ((toString i : String) : Str).cps.toList, c < 128 := fun c hc => by
  rcases Nat.lt_or_ge c 128 with h | h
  · exact h
  · exact absurd hc (PyProof.Rows.int_text_free' c ⟨by omega, by omega⟩ i)
/-- a text whose repr has room -/
structure Small (y : Str) (n : Nat) : Prop where
  len : y.length ≤ n
  low : ∀ c ∈ y.cps.toList, c < 128
theorem Small.int {i : Int} (h : i.natAbs.log2 < 1920) : Small ((toString i : String) : Str) 1921 := ⟨int_text_len h, int_text_low⟩
theorem Small.app {x y : Str} {n m : Nat} (a : Small x n) (b : Small y m) : Small (x ++ y) (n + m) := by
  refine ⟨?_, fun c hc => ?_⟩
  · rw [strLen_append]
    exact Nat.add_le_add a.len b.len
  · rw [Str.cps_append, Array.toList_append] at hc
    rcases List.mem_append.mp hc with h | h
    · exact a.low c h
    · exact b.low c h
theorem Small.mono {x : Str} {n m : Nat} (a : Small x n) (h : n ≤ m) : Small x m := ⟨Nat.le_trans a.len h, a.low⟩
theorem Small.repr {y : Str} {n : Nat} (a : Small y n) (h : n ≤ 1000000) : (reprText y).length ≤ sizeLine := by
  have h1 := StrLaws.reprText_len y fun c hc => Nat.lt_of_lt_of_le (a.low c hc) (by decide)
  have h2 := a.len
  have h3 : sizeLine = 16777216 := rfl
  omega
theorem shaped_str {y : Str} {n : Nat} (a : Small y n) : SeqAt.shaped (.str y) = true := by
  have h : (PyData.str y).canLay0 = true := by
    show PySem.PyData.strOk y = true
    unfold PySem.PyData.strOk
    rw [Array.all_eq_true]
    intro j hj
    have := a.low y.cps[j] (by simp)
    exact decide_eq_true (by omega)
  unfold SeqAt.shaped
  rw [h]
  rfl
/-- a dict comprehension's turns over a list that stays -/
theorem dcW_list {K : PySem.W.Frag} {a : Addr} {xs : List V} {g : TG} {tt : TT} {tk tv : TE} {vs : List Nat} {σ : L2.St} {H1 : Hp} {D : Addr} {Qd : Hp → Prop} (Pv : Nat → Hp → Prop) (h0 : Pv 0 (L2.upd H1 D (.dK [])))
    (hl : ∀ i H, i ≤ xs.length → Pv i H → SqL K H a xs)
    (hs : ∀ i x H, xs[i]? = some x → Pv i H → g x (wipe σ vs) H fun σ2 H2 => wipe σ2 vs = wipe σ vs ∧ tt σ2 H2 fun b H3 =>
      if b = true then tk σ2 H3 fun y H4 => tv σ2 H4 fun z H5 => ∃ kvs k, y = kV k ∧ H5 D = some (.dK kvs) ∧ kvs.length < sizeLine ∧ Pv (i + 1) (L2.upd H5 D (.dK (putK kvs k z))) else Pv (i + 1) H3)
    (hd : ∀ H, Pv xs.length H → Qd H) :
    ∃ W : Nat → Nat → Hp → Prop, (∃ m, W 0 m (L2.upd H1 D (.dK []))) ∧ ∀ i m H, W i m H →
      ((Itl K a).stop i H ∧ Qd H) ∨ ((Itl K a).go i H ∧ ∃ Nx : Hp → Prop, (∀ H', Nx H' → ∃ m', m' < m ∧ W (i + 1) m' H') ∧ ∀ x H', (Itl K a).yld i H x H' → g x (wipe σ vs) H' fun σ2 H2 => wipe σ2 vs = wipe σ vs ∧ tt σ2 H2 fun b H3 =>
        if b = true then tk σ2 H3 fun y H4 => tv σ2 H4 fun z H5 => ∃ kvs k, y = kV k ∧ H5 D = some (.dK kvs) ∧ kvs.length < sizeLine ∧ Nx (L2.upd H5 D (.dK (putK kvs k z))) else Nx H3) := by
  refine ⟨fun i m H => m + i = xs.length ∧ Pv i H, ⟨xs.length, rfl, h0⟩, fun i m H w => ?_⟩
  obtain ⟨hm, hp⟩ := w
  have hq := hl i H (by omega) hp
  rcases Nat.lt_or_ge i xs.length with hlt | hge
  · refine .inr ⟨⟨xs, xs[i], hq, by simp [hlt]⟩, Pv (i + 1), fun H' hn => ⟨m - 1, by omega, by omega, hn⟩, fun x H' y => ?_⟩
    obtain ⟨e, y⟩ := y
    subst e
    exact hs i x _ (y xs hq) hp
  · obtain rfl : i = xs.length := by omega
    exact .inl ⟨⟨xs, hq, Nat.le_refl _⟩, hd H hp⟩
/-- sorted of a dict with text keys, by a name -/
def rSortN : List V → Hp → VK → Prop := fun xs H Q => ∃ (a : Addr) (kvs : List (Key × V)) (ks : List Str), xs = [.ref a] ∧ Rd H a (.dK kvs) ∧ kvs.map (·.1) = ks.map Sum.inr ∧ ks.length < 64 ∧ ∀ ys p, ys.Perm ks → sortedS ys = true → H p = none → Q (.ref p) (L2.upd H p (.lst (ys.map V.str)))
theorem cr_sortN {X : Cx} (hc : X.calm = true) : CallR X (.builtin "sorted") rSortN := call_sortedD hc
/-- {k: v for k in sorted(d) if ..} -/
theorem dc_sorted {K : PySem.W.Frag} {j : Nat} {d : Addr} {kvs : List (Key × V)} {ks : List Str} {g : TG} {tt : TT} {tk tv : TE} {vs : List Nat} {σ : L2.St} {H : Hp} {Q : VK} (hv : σ[j]? = some (some (.ref d))) (hd : H d = some (.dK kvs))
    (hk : kvs.map (·.1) = ks.map Sum.inr) (hn : ks.length < 64)
    (h : ∀ (ys : List Str) (s D : Addr) (H1 : Hp), ys.Perm ks → sortedS ys = true → Ext H H1 → H1 s = some (.lst (ys.map V.str)) → H1 D = none →
      ∃ Pv : Nat → Hp → Prop, Pv 0 (L2.upd H1 D (.dK [])) ∧ (∀ i H', Pv i H' → H' s = some (.lst (ys.map V.str))) ∧
        (∀ i x H', ys[i]? = some x → Pv i H' → g (.str x) (wipe σ vs) H' fun σ2 H2 => wipe σ2 vs = wipe σ vs ∧ tt σ2 H2 fun b H3 =>
          if b = true then tk σ2 H3 fun y H4 => tv σ2 H4 fun z H5 => ∃ kvs k, y = kV k ∧ H5 D = some (.dK kvs) ∧ kvs.length < sizeLine ∧ Pv (i + 1) (L2.upd H5 D (.dK (putK kvs k z))) else Pv (i + 1) H3) ∧
        (∀ H', Pv ys.length H' → Q (.ref D) H')) :
    tDc (iList K (tCB rSortN (tCons (tVar j) tNil))) g tt tk tv vs σ H Q := by
  refine ⟨_, hv, d, kvs, ks, rfl, .inl hd, hk, hn, fun ys s hp hs hsn => ⟨s, rfl, ⟨_, ofL upd_same⟩, fun D hD => ?_⟩⟩
  obtain ⟨Pv, h0, h1, h2, h3⟩ := h ys s D _ hp hs (Ext.upd hsn) upd_same hD
  refine dcW_list (a := s) (xs := ys.map V.str) Pv h0 (fun i H' _ p => ofL (h1 i H' p)) (fun i x H' hx p => ?_) (fun H' p => h3 H' (by rw [List.length_map] at p; exact p))
  rw [List.getElem?_map] at hx
  cases e : ys[i]? with
  | none => rw [e] at hx; cases hx
  | some y =>
    rw [e] at hx
    obtain rfl : x = V.str y := (Option.some.inj hx).symm
    exact h2 i y H' e p
end Own

set_option Elab.async false
set_option maxRecDepth 100000
set_option maxHeartbeats 4000000
set_option linter.all false
namespace My
open PySem L2 Own
def top (i : Nat) : Stmt := PySem.Challenge.pw_oneroof_k01_parts_in_lowest_terms.main.body.getD i (.Pass ⟨0, 0, 0, 0⟩)
abbrev s_Part_init : Stmt := inClass (top 5) 0
abbrev N_Part_init : List Str := ["self", "top", "low", "common"]
abbrev ps_Part_init : List Str := ["self", "top", "low"]
theorem sc_Part_init : FnScope N_Part_init ps_Part_init (defScope s_Part_init) := ⟨rfl, rfl, rfl, by decide +kernel, rfl, by decide +kernel, by decide +kernel⟩
abbrev s_Part_sign : Stmt := inClass (top 5) 5
abbrev N_Part_sign : List Str := ["self"]
abbrev ps_Part_sign : List Str := ["self"]
theorem sc_Part_sign : FnScope N_Part_sign ps_Part_sign (defScope s_Part_sign) := ⟨rfl, rfl, rfl, by decide +kernel, rfl, by decide +kernel, by decide +kernel⟩
abbrev s_Part_eq : Stmt := inClass (top 5) 6
abbrev N_Part_eq : List Str := ["self", "other"]
abbrev ps_Part_eq : List Str := ["self", "other"]
theorem sc_Part_eq : FnScope N_Part_eq ps_Part_eq (defScope s_Part_eq) := ⟨rfl, rfl, rfl, by decide +kernel, rfl, by decide +kernel, by decide +kernel⟩
abbrev s_Part_repr : Stmt := inClass (top 5) 7
abbrev N_Part_repr : List Str := ["self"]
abbrev ps_Part_repr : List Str := ["self"]
theorem sc_Part_repr : FnScope N_Part_repr ps_Part_repr (defScope s_Part_repr) := ⟨rfl, rfl, rfl, by decide +kernel, rfl, by decide +kernel, by decide +kernel⟩
abbrev s_Purse_init : Stmt := inClass (top 6) 0
abbrev N_Purse_init : List Str := ["self", "rows", "sums", "coin", "part"]
abbrev ps_Purse_init : List Str := ["self", "rows"]
theorem sc_Purse_init : FnScope N_Purse_init ps_Purse_init (defScope s_Purse_init) := ⟨rfl, rfl, rfl, by decide +kernel, rfl, by decide +kernel, by decide +kernel⟩
abbrev s_l_cell : Stmt := top 8
abbrev N_l_cell : List Str := ["_law_script", "_law_k", "_law_base", "_law_one"]
abbrev ps_l_cell : List Str := ["_law_script", "_law_k"]
theorem sc_l_cell : FnScope N_l_cell ps_l_cell (defScope s_l_cell) := ⟨rfl, rfl, rfl, by decide +kernel, rfl, by decide +kernel, by decide +kernel⟩
abbrev s_l_digits : Stmt := top 9
abbrev N_l_digits : List Str := ["_law_script", "_law_k", "_law_sizes", "_law_cell_here", "_law_out", "_law_rest", "_law_size", "_law_one", "_law_j", "_law_two"]
abbrev ps_l_digits : List Str := ["_law_script", "_law_k", "_law_sizes"]
theorem sc_l_digits : FnScope N_l_digits ps_l_digits (defScope s_l_digits) := ⟨rfl, rfl, rfl, by decide +kernel, rfl, by decide +kernel, by decide +kernel⟩
abbrev s_l_frac : Stmt := top 10
abbrev N_l_frac : List Str := ["_law_top", "_law_low", "_law_one", "_law_other", "_law_sign"]
abbrev ps_l_frac : List Str := ["_law_top", "_law_low"]
theorem sc_l_frac : FnScope N_l_frac ps_l_frac (defScope s_l_frac) := ⟨rfl, rfl, rfl, by decide +kernel, rfl, by decide +kernel, by decide +kernel⟩
abbrev s_l_whole : Stmt := top 11
abbrev N_l_whole : List Str := ["_law_x"]
abbrev ps_l_whole : List Str := ["_law_x"]
theorem sc_l_whole : FnScope N_l_whole ps_l_whole (defScope s_l_whole) := ⟨rfl, rfl, rfl, by decide +kernel, rfl, by decide +kernel, by decide +kernel⟩
abbrev s_l_same : Stmt := top 12
abbrev N_l_same : List Str := ["_law_one", "_law_other"]
abbrev ps_l_same : List Str := ["_law_one", "_law_other"]
theorem sc_l_same : FnScope N_l_same ps_l_same (defScope s_l_same) := ⟨rfl, rfl, rfl, by decide +kernel, rfl, by decide +kernel, by decide +kernel⟩
abbrev s_law : Stmt := top 13
abbrev N_law : List Str := ["_law_script", "_law_k", "_law_top", "_law_low", "_law_by", "_law_turn", "_law_size", "_law_grown", "_law_due", "_law_part", "_law_shown", "_law_sign"]
abbrev ps_law : List Str := ["_law_script"]
theorem sc_law : FnScope N_law ps_law (defScope s_law) := ⟨rfl, rfl, rfl, by decide +kernel, rfl, by decide +kernel, by decide +kernel⟩
structure Adr where
  C_Part : Addr
  C_Purse : Addr
  f_Part_init : Addr
  d_Part_init : FuncData
  f_Part_sign : Addr
  d_Part_sign : FuncData
  f_Part_eq : Addr
  d_Part_eq : FuncData
  f_Part_repr : Addr
  d_Part_repr : FuncData
  f_Purse_init : Addr
  d_Purse_init : FuncData
  f_l_cell : Addr
  d_l_cell : FuncData
  f_l_digits : Addr
  d_l_digits : FuncData
  f_l_frac : Addr
  d_l_frac : FuncData
  f_l_whole : Addr
  d_l_whole : FuncData
  f_l_same : Addr
  d_l_same : FuncData
  f_law : Addr
  d_law : FuncData
  t_rows : Addr
/-- what the walk asks of the text -/
structure Txt (a : Adr) (K : PySem.W.Frag) (mg : Str → Option Value) : Prop where
  F_Part_init : FunD K "__init__" "Part.__init__" (defArgs s_Part_init) (defBody s_Part_init) (defScope s_Part_init) [V.int 1] [] a.f_Part_init a.d_Part_init
  F_Part_sign : Fun K "sign" "Part.sign" s_Part_sign a.f_Part_sign a.d_Part_sign
  F_Part_eq : Fun K "__eq__" "Part.__eq__" s_Part_eq a.f_Part_eq a.d_Part_eq
  F_Part_repr : Fun K "__repr__" "Part.__repr__" s_Part_repr a.f_Part_repr a.d_Part_repr
  F_Purse_init : FunD K "__init__" "Purse.__init__" (defArgs s_Purse_init) (defBody s_Purse_init) (defScope s_Purse_init) [V.ref a.t_rows] [] a.f_Purse_init a.d_Purse_init
  F_l_cell : Fun K "_law_cell" "_law_cell" s_l_cell a.f_l_cell a.d_l_cell
  mg_l_cell : mg "_law_cell" = some (.ref a.f_l_cell)
  F_l_digits : Fun K "_law_digits" "_law_digits" s_l_digits a.f_l_digits a.d_l_digits
  mg_l_digits : mg "_law_digits" = some (.ref a.f_l_digits)
  F_l_frac : Fun K "_law_frac" "_law_frac" s_l_frac a.f_l_frac a.d_l_frac
  mg_l_frac : mg "_law_frac" = some (.ref a.f_l_frac)
  F_l_whole : Fun K "_law_whole" "_law_whole" s_l_whole a.f_l_whole a.d_l_whole
  mg_l_whole : mg "_law_whole" = some (.ref a.f_l_whole)
  F_l_same : Fun K "_law_same" "_law_same" s_l_same a.f_l_same a.d_l_same
  mg_l_same : mg "_law_same" = some (.ref a.f_l_same)
  F_law : Fun K "law" "law" s_law a.f_law a.d_law
  mg_law : mg "law" = some (.ref a.f_law)
  mg_Part : mg "Part" = some (.ref a.C_Part)
  kp_Part : PySem.W.keepIn K (.ref a.C_Part) = true
  cl_Part : Cls K a.C_Part
  mk_Part : Mk K a.C_Part a.f_Part_init
  m_Part_sign : Meth K a.C_Part "sign" a.f_Part_sign
  m_Part_eq : Meth K a.C_Part "__eq__" a.f_Part_eq
  m_Part_repr : Meth K a.C_Part "__repr__" a.f_Part_repr
  na_Part_top : PySem.W.findIn K (.ref a.C_Part) "top" = some none
  na_Part_low : PySem.W.findIn K (.ref a.C_Part) "low" = some none
  mro_Part : PySem.W.mroIn K a.C_Part (.type "object") = some true
  cc_Part : PySem.W.findIn K (.ref a.C_Part) "__class__" = some (some (.builtin "object.__class__"))
  ne_Part : PySem.W.findIn K (.ref a.C_Part) "__ne__" = some (some (.builtin "object.__ne__"))
  kit_Part_Part : PySem.W.kitOne K (.ref a.C_Part) (.ref a.C_Part) = some true
  kit_Purse_Part : PySem.W.kitOne K (.ref a.C_Purse) (.ref a.C_Part) = some false
  kit_int_Part : PySem.W.kitOne K (.type "int") (.ref a.C_Part) = some false
  kit_str_Part : PySem.W.kitOne K (.type "str") (.ref a.C_Part) = some false
  kit_tuple_Part : PySem.W.kitOne K (.type "tuple") (.ref a.C_Part) = some false
  nf_Part_Part : PySem.W.notFirst K a.C_Part (.ref a.C_Part) = true
  nf_Purse_Part : PySem.W.notFirst K a.C_Part (.ref a.C_Purse) = true
  nf_int_Part : PySem.W.notFirst K a.C_Part (.type "int") = true
  nf_str_Part : PySem.W.notFirst K a.C_Part (.type "str") = true
  nf_tuple_Part : PySem.W.notFirst K a.C_Part (.type "tuple") = true
  mg_Purse : mg "Purse" = some (.ref a.C_Purse)
  kp_Purse : PySem.W.keepIn K (.ref a.C_Purse) = true
  cl_Purse : Cls K a.C_Purse
  mk_Purse : Mk K a.C_Purse a.f_Purse_init
  na_Purse__held : PySem.W.findIn K (.ref a.C_Purse) "_held" = some none
  mro_Purse : PySem.W.mroIn K a.C_Purse (.type "object") = some true
  cc_Purse : PySem.W.findIn K (.ref a.C_Purse) "__class__" = some (some (.builtin "object.__class__"))
  cget : PySem.W.specialIn K (.builtin "object.__class__") "__get__" = some (some (.builtin "getset_descriptor.__get__"))
  ctk : PySem.W.takesIn K (.builtin "object.__class__") = some true
  no_len : mg "len" = none
  no_range : mg "range" = none
  no_abs : mg "abs" = none
  no_isinstance : mg "isinstance" = none
  no_str : mg "str" = none
  no_repr : mg "repr" = none
  no_int : mg "int" = none
  no_bool : mg "bool" = none
  no_dict : mg "dict" = none
  no_sorted : mg "sorted" = none
  mg_gcd : mg "gcd" = some (.builtin "math.gcd")
section
variable {P : Program} {w : World} {K : PySem.W.Frag} {mg : Str → Option Value} {base : Heap} {a : Adr}
theorem cxK {CX : CXT} {N : List Str} {q : Str} {sc : Scope} {f : Addr} {cdv : Value} {A : Around} {outer : List Env} {s : Shared} {H : Hp} {E : XK} : (cxOf CX P w K mg base N q sc f cdv A outer s H E).K = K := rfl
theorem bnd_Part_init_1 (T : Txt a K mg) : ∃ ds, Vals (([V.int 1] : List V).drop 0) ds ∧ Binds K a.d_Part_init ps_Part_init ds :=
  T.F_Part_init.binds1 (ps := ps_Part_init) 2 0 (List.cons_ne_nil _ _) rfl fun T kV doc pm an cdv ct us its hl hd => match us, its, hl, hd with | [_, _], [_], _, _ => ⟨_, rfl, rfl⟩
theorem bnd_Part_init_2 (T : Txt a K mg) : ∃ ds, Vals (([V.int 1] : List V).drop 1) ds ∧ Binds K a.d_Part_init ps_Part_init ds :=
  T.F_Part_init.binds1 (ps := ps_Part_init) 3 1 (List.cons_ne_nil _ _) rfl fun T kV doc pm an cdv ct us its hl hd => match us, its, hl, hd with | [_, _, _], [_], _, _ => ⟨_, rfl, rfl⟩
theorem bnd_Part_sign (T : Txt a K mg) : Binds K a.d_Part_sign ps_Part_sign [] :=
  T.F_Part_sign.binds (ps := ps_Part_sign) fun _ _ _ _ _ _ us hl => match us, hl with | [_], _ => rfl
theorem bnd_Part_eq (T : Txt a K mg) : Binds K a.d_Part_eq ps_Part_eq [] :=
  T.F_Part_eq.binds (ps := ps_Part_eq) fun _ _ _ _ _ _ us hl => match us, hl with | [_, _], _ => rfl
theorem bnd_Part_repr (T : Txt a K mg) : Binds K a.d_Part_repr ps_Part_repr [] :=
  T.F_Part_repr.binds (ps := ps_Part_repr) fun _ _ _ _ _ _ us hl => match us, hl with | [_], _ => rfl
theorem bnd_Purse_init_0 (T : Txt a K mg) : ∃ ds, Vals (([V.ref a.t_rows] : List V).drop 0) ds ∧ Binds K a.d_Purse_init ps_Purse_init ds :=
  T.F_Purse_init.binds1 (ps := ps_Purse_init) 1 0 (List.cons_ne_nil _ _) rfl fun T kV doc pm an cdv ct us its hl hd => match us, its, hl, hd with | [_], [_], _, _ => ⟨_, rfl, rfl⟩
theorem bnd_Purse_init_1 (T : Txt a K mg) : ∃ ds, Vals (([V.ref a.t_rows] : List V).drop 1) ds ∧ Binds K a.d_Purse_init ps_Purse_init ds :=
  T.F_Purse_init.binds1 (ps := ps_Purse_init) 2 1 (List.cons_ne_nil _ _) rfl fun T kV doc pm an cdv ct us its hl hd => match us, its, hl, hd with | [_, _], [_], _, _ => ⟨_, rfl, rfl⟩
theorem bnd_l_cell (T : Txt a K mg) : Binds K a.d_l_cell ps_l_cell [] :=
  T.F_l_cell.binds (ps := ps_l_cell) fun _ _ _ _ _ _ us hl => match us, hl with | [_, _], _ => rfl
theorem bnd_l_digits (T : Txt a K mg) : Binds K a.d_l_digits ps_l_digits [] :=
  T.F_l_digits.binds (ps := ps_l_digits) fun _ _ _ _ _ _ us hl => match us, hl with | [_, _, _], _ => rfl
theorem bnd_l_frac (T : Txt a K mg) : Binds K a.d_l_frac ps_l_frac [] :=
  T.F_l_frac.binds (ps := ps_l_frac) fun _ _ _ _ _ _ us hl => match us, hl with | [_, _], _ => rfl
theorem bnd_l_whole (T : Txt a K mg) : Binds K a.d_l_whole ps_l_whole [] :=
  T.F_l_whole.binds (ps := ps_l_whole) fun _ _ _ _ _ _ us hl => match us, hl with | [_], _ => rfl
theorem bnd_l_same (T : Txt a K mg) : Binds K a.d_l_same ps_l_same [] :=
  T.F_l_same.binds (ps := ps_l_same) fun _ _ _ _ _ _ us hl => match us, hl with | [_, _], _ => rfl
theorem bnd_law (T : Txt a K mg) : Binds K a.d_law ps_law [] :=
  T.F_law.binds (ps := ps_law) fun _ _ _ _ _ _ us hl => match us, hl with | [_], _ => rfl
/-! ### _law_cell -/
def spCell (K : PySem.W.Frag) : Sp := fun vs H Q _ => ∃ (l : Addr) (ns : List Int) (k : Int), vs = [.ref l, .int k] ∧ SqL K H l (ns.map V.int) ∧ ns.length ≤ 63 ∧ 0 ≤ k ∧ k < 1000000 ∧ ∀ c : Int, Q (.int c) H
theorem ok_l_cell (T : Txt a K mg) : FnOk P w K mg base CX0 1 a.f_l_cell a.d_l_cell ps_l_cell (spCell K) := by
  refine T.F_l_cell.ok sc_l_cell (fun vs H Q E h => ?_) (fun cdv A outer s H vs Q E hr h => ?_)
  · obtain ⟨l, ns, k, rfl, _⟩ := h
    rfl
  · obtain ⟨l, ns, k, rfl, hs, hn, h0, h1, q⟩ := h
    refine ⟨_, (pss_cons (ps_if (pt_cmpR op_lt (pv 1) (pe_callB call_len_seq (by rfl) T.no_len (by decide +kernel) (pa_cons (pv 0) pa_nil)) (nomark _)) (pss_one (ps_ret (pe_ix ix_list (pv 0) (pv 1) (fun _ _ => rfl)))) pss_nil)
      (pss_cons (ps_set (i := 2) sc_l_cell.nd rfl (by first | exact Or.inl rfl | exact Or.inr rfl) pe_int)
      (pss_cons (ps_for PassesOwn.never rfl (pi_list (pv 0)) (pg_name (i := 3) sc_l_cell.nd rfl (by first | exact Or.inl rfl | exact Or.inr rfl))
        (pss_one (ps_set (i := 2) sc_l_cell.nd rfl (by first | exact Or.inl rfl | exact Or.inr rfl) (pe_op op_mod (pe_op op_add (pe_op op_mulW (pv 2) pe_int) (pv 3)) pe_int))))
      (pss_one (ps_ret (pe_op op_mod (pe_op op_mulW (pe_op op_mulW (pe_op op_add (pv 2) pe_int) (pe_op op_add (pv 1) pe_int)) pe_int) pe_int)))))), ?_⟩
    show tSeq _ _ _ [some (V.ref l), some (V.int k), none, none] H
    simp only [tSeq, tIfS, tOp, tVar, tC, tCB, tCons, tNil, rI0, rI, tTest, tRet, tRetN, tNext, tAsg, gName, gNil, gCons, gTup, gUnl, tLst, tTup, tCall, tMeth, tMake, tUn, rU, tAndV, tOrV, tNotV, tAnd, tOr, tNot, tIf, tB, tFld, tDrop, tPar, tNever, tBM, rAppend, tSl, tPart, tNoPart, tyLst, List.getElem?_cons_zero, List.getElem?_cons_succ, Option.some.injEq, exists_eq_left', exists_eq_left, V.int.injEq, V.bl.injEq, V.str.injEq, V.ref.injEq, List.set_cons_zero, List.set_cons_succ, exists_and_left, exists_and_right, and_assoc, List.cons.injEq, and_true, true_and, List.cons_append, List.nil_append, List.append_nil, List.length_cons, List.length_nil, exists_eq', exists_eq, exists_const, exists_eq_right, exists_eq_right', cxK, Cx.nox, Cx.wish]
    refine ⟨_, .inl hs, ?_⟩
    rw [List.length_map]
    refine ite2 (fun hk => ?_) (fun hk => ?_)
    · have hk := of_decide_eq_true hk
      simp only [rIxL, tSeq, tIfS, tOp, tVar, tC, tCB, tCons, tNil, rI0, rI, tTest, tRet, tRetN, tNext, tAsg, gName, gNil, gCons, gTup, gUnl, tLst, tTup, tCall, tMeth, tMake, tUn, rU, tAndV, tOrV, tNotV, tAnd, tOr, tNot, tIf, tB, tFld, tDrop, tPar, tNever, tBM, rAppend, tSl, tPart, tNoPart, tyLst, List.getElem?_cons_zero, List.getElem?_cons_succ, Option.some.injEq, exists_eq_left', exists_eq_left, V.int.injEq, V.bl.injEq, V.str.injEq, V.ref.injEq, List.set_cons_zero, List.set_cons_succ, exists_and_left, exists_and_right, and_assoc, List.cons.injEq, and_true, true_and, List.cons_append, List.nil_append, List.append_nil, List.length_cons, List.length_nil, exists_eq', exists_eq, exists_const, exists_eq_right, exists_eq_right', cxK, Cx.nox, Cx.wish]
      obtain ⟨v, hv, e⟩ := atI_lt (xs := ns) h0 hk
      exact ⟨_, hs, .int v, atI_map e, q v⟩
    · refine for_listI (a := l) (xs := ns.map V.int) rfl hs (fun i σ H' => H' = H ∧ ∃ (b : Int) (v : Option V), σ = [some (V.ref l), some (V.int k), some (V.int b), v] ∧ b.natAbs < 2 ^ 62) ⟨rfl, 17, none, rfl, by decide⟩ (fun i σ H' _ hh => hh.1 ▸ hs) ?_ ?_
      · rintro i x σ H' hx ⟨rfl, b, v, rfl, hb⟩
        obtain ⟨z, rfl⟩ : ∃ z, x = V.int z := by
          obtain ⟨z, _, e⟩ := List.mem_map.mp (List.mem_of_getElem? hx)
          exact ⟨z, e.symm⟩
        simp only [tSeq, tIfS, tOp, tVar, tC, tCB, tCons, tNil, rI0, rI, tTest, tRet, tRetN, tNext, tAsg, gName, gNil, gCons, gTup, gUnl, tLst, tTup, tCall, tMeth, tMake, tUn, rU, tAndV, tOrV, tNotV, tAnd, tOr, tNot, tIf, tB, tFld, tDrop, tPar, tNever, tBM, rAppend, tSl, tPart, tNoPart, tyLst, List.getElem?_cons_zero, List.getElem?_cons_succ, Option.some.injEq, exists_eq_left', exists_eq_left, V.int.injEq, V.bl.injEq, V.str.injEq, V.ref.injEq, List.set_cons_zero, List.set_cons_succ, exists_and_left, exists_and_right, and_assoc, List.cons.injEq, and_true, true_and, List.cons_append, List.nil_append, List.append_nil, List.length_cons, List.length_nil, exists_eq', exists_eq, exists_const, exists_eq_right, exists_eq_right', cxK, Cx.nox, Cx.wish]
        exact ⟨mulW64 (by omega) (by decide), by decide, by omega⟩
      · rintro σ H' ⟨rfl, b, v, rfl, hb⟩
        simp only [tSeq, tIfS, tOp, tVar, tC, tCB, tCons, tNil, rI0, rI, tTest, tRet, tRetN, tNext, tAsg, gName, gNil, gCons, gTup, gUnl, tLst, tTup, tCall, tMeth, tMake, tUn, rU, tAndV, tOrV, tNotV, tAnd, tOr, tNot, tIf, tB, tFld, tDrop, tPar, tNever, tBM, rAppend, tSl, tPart, tNoPart, tyLst, List.getElem?_cons_zero, List.getElem?_cons_succ, Option.some.injEq, exists_eq_left', exists_eq_left, V.int.injEq, V.bl.injEq, V.str.injEq, V.ref.injEq, List.set_cons_zero, List.set_cons_succ, exists_and_left, exists_and_right, and_assoc, List.cons.injEq, and_true, true_and, List.cons_append, List.nil_append, List.append_nil, List.length_cons, List.length_nil, exists_eq', exists_eq, exists_const, exists_eq_right, exists_eq_right', cxK, Cx.nox, Cx.wish]
        refine ⟨mulW64 (by omega) (by omega), mulWn 128 64 ?_ (by decide) (by decide) (by decide) (by decide), by decide, q _⟩
        exact mul_lt 64 64 (by omega) (by omega)
/-! ### _law_digits -/
def spDigits (K : PySem.W.Frag) : Sp := fun vs H Q _ => ∃ (l z : Addr) (ns szs : List Int) (k : Int), vs = [.ref l, .int k, .ref z] ∧ SqL K H l (ns.map V.int) ∧ ns.length ≤ 63 ∧ 0 ≤ k ∧ k < 1000000 ∧ SqL K H z (szs.map V.int) ∧ szs.length ≤ 64 ∧ (∀ y ∈ szs, 0 < y ∧ y < 1073741824) ∧
  ∀ (ds : List Int) (p : Addr), Drawn ds szs → H p = none → Q (.ref p) (upd H p (.lst (ds.map V.int)))
theorem ok_l_digits (T : Txt a K mg) : FnOk P w K mg base CX0 2 a.f_l_digits a.d_l_digits ps_l_digits (spDigits K) := by
  refine T.F_l_digits.ok sc_l_digits (fun vs H Q E h => ?_) (fun cdv A outer s H vs Q E hr h => ?_)
  · obtain ⟨l, z, ns, szs, k, rfl, _⟩ := h
    rfl
  · obtain ⟨l, z, ns, szs, k, rfl, hs, hn, h0, h1, hz, hzl, hzb, q⟩ := h
    have G_l_cell := ok_l_cell (P := P) (w := w) (base := base) T
    have B_l_cell := bnd_l_cell T
    have hr_l_cell : Room 1 _ := hr
    refine ⟨_, (pss_cons (ps_set (i := 3) sc_l_digits.nd rfl (by first | exact Or.inl rfl | exact Or.inr rfl) (pe_call G_l_cell hr_l_cell (by rfl) T.mg_l_cell T.F_l_cell.kp B_l_cell .nil pass0 (pa_cons (pv 0) (pa_cons (pv 1) pa_nil))))
      (pss_cons (ps_set (i := 4) sc_l_digits.nd rfl (by first | exact Or.inl rfl | exact Or.inr rfl) (pe_lst pa_nil))
      (pss_cons (ps_if (pt_cmpR op_ge (pv 3) (pe_op op_pow pe_int pe_int) (nomark _)) (pss_cons (ps_set (i := 5) sc_l_digits.nd rfl (by first | exact Or.inl rfl | exact Or.inr rfl) (pe_op op_sub (pv 3) (pe_op op_pow pe_int pe_int)))
        (pss_cons (ps_for PassesOwn.never rfl (pi_list (pv 2)) (pg_name (i := 6) sc_l_digits.nd rfl (by first | exact Or.inl rfl | exact Or.inr rfl))
          (pss_cons (ps_expr (pe_bm PySem.F.plainAttrs_list PySem.F.slot_list_append PySem.F.type_list_append mt_append (pv 4) (pa_cons (pe_op op_mod (pv 5) (pv 6)) pa_nil)))
          (pss_one (ps_set (i := 5) sc_l_digits.nd rfl (by first | exact Or.inl rfl | exact Or.inr rfl) (pe_op op_fdivA (pv 5) (pv 6))))))
        (pss_one (ps_ret (pv 4))))) pss_nil)
      (pss_cons (ps_set (i := 7) sc_l_digits.nd rfl (by first | exact Or.inl rfl | exact Or.inr rfl) (pe_op op_mod (pv 3) pe_int))
      (pss_cons (ps_for PassesOwn.never rfl (pi_range1 rfl T.no_range (pa_cons (pe_callB call_len_seq (by rfl) T.no_len (by decide +kernel) (pa_cons (pv 2) pa_nil)) pa_nil)) (pg_name (i := 8) sc_l_digits.nd rfl (by first | exact Or.inl rfl | exact Or.inr rfl))
        (pss_cons (ps_set (i := 7) sc_l_digits.nd rfl (by first | exact Or.inl rfl | exact Or.inr rfl) (pe_op op_mod (pe_op op_add (pe_op op_mulW (pv 7) pe_int) (pe_op op_mulW pe_int (pe_op op_add (pv 8) pe_int))) pe_int))
        (pss_cons (ps_set (i := 9) sc_l_digits.nd rfl (by first | exact Or.inl rfl | exact Or.inr rfl) (pe_op op_mod (pe_op op_add (pe_op op_add (pe_op op_mulW (pv 7) (pv 7)) (pe_op op_mulW pe_int (pv 7))) (pv 8)) pe_int))
        (pss_one (ps_expr (pe_bm PySem.F.plainAttrs_list PySem.F.slot_list_append PySem.F.type_list_append mt_append (pv 4) (pa_cons (pe_op op_mod (pe_op op_fdivA (pv 9) pe_int) (pe_ix ix_list (pv 2) (pv 8) (fun _ _ => rfl))) pa_nil)))))))
      (pss_one (ps_ret (pv 4)))))))), ?_⟩
    show tSeq _ _ _ [some (V.ref l), some (V.int k), some (V.ref z), none, none, none, none, none, none, none] H
    simp only [tSeq, tIfS, tOp, tVar, tC, tCB, tCons, tNil, rI0, rI, tTest, tRet, tRetN, tNext, tAsg, gName, gNil, gCons, gTup, gUnl, tLst, tTup, tCall, tMeth, tMake, tUn, rU, tAndV, tOrV, tNotV, tAnd, tOr, tNot, tIf, tB, tFld, tDrop, tPar, tNever, tBM, rAppend, tSl, tPart, tNoPart, tyLst, List.getElem?_cons_zero, List.getElem?_cons_succ, Option.some.injEq, exists_eq_left', exists_eq_left, V.int.injEq, V.bl.injEq, V.str.injEq, V.ref.injEq, List.set_cons_zero, List.set_cons_succ, exists_and_left, exists_and_right, and_assoc, List.cons.injEq, and_true, true_and, List.cons_append, List.nil_append, List.append_nil, List.length_cons, List.length_nil, exists_eq', exists_eq, exists_const, exists_eq_right, exists_eq_right', cxK, Cx.nox, Cx.wish]
    refine ⟨l, ns, k, rfl, hs, hn, h0, h1, fun c => ?_⟩
    refine ⟨by decide, fun p hp => ?_⟩
    have key : ∀ (y : Int) (ds : List Int) (i : Nat), szs[i]? = some y → Drawn ds (szs.take i) → ∀ d : Int, 0 ≤ d → d < y → Drawn (ds ++ [d]) (szs.take (i + 1)) := fun y ds i hy hd d h1 h2 => by
      rw [take_snoc hy]
      exact PySem.Paired.snoc hd ⟨h1, h2⟩
    have dl : ∀ {ds : List Int} {i : Nat}, Drawn ds (szs.take i) → ds.length < sizeLine := fun {ds i} hd => by
      have h1 : ds.length = (szs.take i).length := Paired.length hd
      rw [List.length_take] at h1
      have h2 : sizeLine = 16777216 := rfl
      omega
    have hpz : ∀ u, SqL K (upd H p u) z (szs.map V.int) := fun u => seqL hz (Ext.upd hp)
    simp only [tSeq, tIfS, tOp, tVar, tC, tCB, tCons, tNil, rI0, rI, tTest, tRet, tRetN, tNext, tAsg, gName, gNil, gCons, gTup, gUnl, tLst, tTup, tCall, tMeth, tMake, tUn, rU, tAndV, tOrV, tNotV, tAnd, tOr, tNot, tIf, tB, tFld, tDrop, tPar, tNever, tBM, rAppend, tSl, tPart, tNoPart, tyLst, List.getElem?_cons_zero, List.getElem?_cons_succ, Option.some.injEq, exists_eq_left', exists_eq_left, V.int.injEq, V.bl.injEq, V.str.injEq, V.ref.injEq, List.set_cons_zero, List.set_cons_succ, exists_and_left, exists_and_right, and_assoc, List.cons.injEq, and_true, true_and, List.cons_append, List.nil_append, List.append_nil, List.length_cons, List.length_nil, exists_eq', exists_eq, exists_const, exists_eq_right, exists_eq_right', cxK, Cx.nox, Cx.wish]
    refine ⟨⟨by decide, by decide, by decide⟩, ite2 (fun hb => ?_) (fun hb => ?_)⟩
    · refine ⟨⟨by decide, by decide, by decide⟩, ?_⟩
      refine for_listI (a := z) (xs := szs.map V.int) rfl (hpz _) (fun i σ H' => ∃ (r : Int) (v : Option V) (ds : List Int), σ = [some (V.ref l), some (V.int k), some (V.ref z), some (V.int c), some (V.ref p), some (V.int r), v, none, none, none] ∧ H' = upd H p (.lst (ds.map V.int)) ∧ Drawn ds (szs.take i))
        ⟨_, none, [], rfl, rfl, .nil⟩ (fun i σ H' _ ⟨_, _, _, _, hh, _⟩ => hh ▸ hpz _) ?_ ?_
      · rintro i x σ H' hx ⟨r, v, ds, rfl, rfl, hd⟩
        obtain ⟨y, hy, rfl⟩ : ∃ y, szs[i]? = some y ∧ x = V.int y := by
          rw [List.getElem?_map] at hx
          cases e : szs[i]? with
          | none => rw [e] at hx; cases hx
          | some y => rw [e] at hx; exact ⟨y, rfl, (Option.some.inj hx).symm⟩
        have hyb := hzb y (List.mem_of_getElem? hy)
        simp only [tSeq, tIfS, tOp, tVar, tC, tCB, tCons, tNil, rI0, rI, tTest, tRet, tRetN, tNext, tAsg, gName, gNil, gCons, gTup, gUnl, tLst, tTup, tCall, tMeth, tMake, tUn, rU, tAndV, tOrV, tNotV, tAnd, tOr, tNot, tIf, tB, tFld, tDrop, tPar, tNever, tBM, rAppend, tSl, tPart, tNoPart, tyLst, List.getElem?_cons_zero, List.getElem?_cons_succ, Option.some.injEq, exists_eq_left', exists_eq_left, V.int.injEq, V.bl.injEq, V.str.injEq, V.ref.injEq, List.set_cons_zero, List.set_cons_succ, exists_and_left, exists_and_right, and_assoc, List.cons.injEq, and_true, true_and, List.cons_append, List.nil_append, List.append_nil, List.length_cons, List.length_nil, exists_eq', exists_eq, exists_const, exists_eq_right, exists_eq_right', cxK, Cx.nox, Cx.wish]
        refine ⟨tyLst upd_same, hyb.1, _, upd_same, by rw [List.length_map]; exact dl hd, divA_of 64 (by omega) (by omega) (by decide) (by decide), ds ++ [r % y], ?_, key y ds i hy hd _ (Int.emod_nonneg _ (by omega)) (Int.emod_lt_of_pos _ hyb.1)⟩
        rw [upd_upd, List.map_append]
        rfl
      · rintro σ H' ⟨r, v, ds, rfl, rfl, hd⟩
        simp only [tSeq, tIfS, tOp, tVar, tC, tCB, tCons, tNil, rI0, rI, tTest, tRet, tRetN, tNext, tAsg, gName, gNil, gCons, gTup, gUnl, tLst, tTup, tCall, tMeth, tMake, tUn, rU, tAndV, tOrV, tNotV, tAnd, tOr, tNot, tIf, tB, tFld, tDrop, tPar, tNever, tBM, rAppend, tSl, tPart, tNoPart, tyLst, List.getElem?_cons_zero, List.getElem?_cons_succ, Option.some.injEq, exists_eq_left', exists_eq_left, V.int.injEq, V.bl.injEq, V.str.injEq, V.ref.injEq, List.set_cons_zero, List.set_cons_succ, exists_and_left, exists_and_right, and_assoc, List.cons.injEq, and_true, true_and, List.cons_append, List.nil_append, List.append_nil, List.length_cons, List.length_nil, exists_eq', exists_eq, exists_const, exists_eq_right, exists_eq_right', cxK, Cx.nox, Cx.wish]
        rw [List.length_map, List.take_length] at hd
        exact q ds p hd hp
    · refine ⟨by decide, ?_⟩
      refine for_rangeI (n := (szs.length : Int)) (fun R r => ?_) (by omega) (by omega) (fun i σ H' => ∃ (o : Int) (v u : Option V) (ds : List Int), σ = [some (V.ref l), some (V.int k), some (V.ref z), some (V.int c), some (V.ref p), none, none, some (V.int o), v, u] ∧ o.natAbs < 2 ^ 31 ∧ H' = upd H p (.lst (ds.map V.int)) ∧ Drawn ds (szs.take i))
        ⟨_, none, none, [], rfl, by omega, rfl, .nil⟩ ?_ ?_
      · simp only [tSeq, tIfS, tOp, tVar, tC, tCB, tCons, tNil, rI0, rI, tTest, tRet, tRetN, tNext, tAsg, gName, gNil, gCons, gTup, gUnl, tLst, tTup, tCall, tMeth, tMake, tUn, rU, tAndV, tOrV, tNotV, tAnd, tOr, tNot, tIf, tB, tFld, tDrop, tPar, tNever, tBM, rAppend, tSl, tPart, tNoPart, tyLst, List.getElem?_cons_zero, List.getElem?_cons_succ, Option.some.injEq, exists_eq_left', exists_eq_left, V.int.injEq, V.bl.injEq, V.str.injEq, V.ref.injEq, List.set_cons_zero, List.set_cons_succ, exists_and_left, exists_and_right, and_assoc, List.cons.injEq, and_true, true_and, List.cons_append, List.nil_append, List.append_nil, List.length_cons, List.length_nil, exists_eq', exists_eq, exists_const, exists_eq_right, exists_eq_right', cxK, Cx.nox, Cx.wish]
        refine ⟨_, .inl (hpz _), ?_⟩
        rw [List.length_map]
        exact r
      · rintro i σ H' hi ⟨o, v, u, ds, rfl, ho, rfl, hd⟩
        rw [Int.toNat_natCast] at hi
        have hy : szs[i]? = some szs[i] := List.getElem?_eq_getElem hi
        have hyb := hzb szs[i] (List.getElem_mem hi)
        have hat : atI (szs.map V.int) (0 + (i : Int)) = some (V.int szs[i]) := by
          rw [Int.zero_add]
          exact atI_map (Own.atI_nat hy)
        simp only [rIxL, tSeq, tIfS, tOp, tVar, tC, tCB, tCons, tNil, rI0, rI, tTest, tRet, tRetN, tNext, tAsg, gName, gNil, gCons, gTup, gUnl, tLst, tTup, tCall, tMeth, tMake, tUn, rU, tAndV, tOrV, tNotV, tAnd, tOr, tNot, tIf, tB, tFld, tDrop, tPar, tNever, tBM, rAppend, tSl, tPart, tNoPart, tyLst, List.getElem?_cons_zero, List.getElem?_cons_succ, Option.some.injEq, exists_eq_left', exists_eq_left, V.int.injEq, V.bl.injEq, V.str.injEq, V.ref.injEq, List.set_cons_zero, List.set_cons_succ, exists_and_left, exists_and_right, and_assoc, List.cons.injEq, and_true, true_and, List.cons_append, List.nil_append, List.append_nil, List.length_cons, List.length_nil, exists_eq', exists_eq, exists_const, exists_eq_right, exists_eq_right', cxK, Cx.nox, Cx.wish]
        refine ⟨mulW64 (by omega) (by decide), mulW64 (by decide) (by omega), by decide, mulW64 (by omega) (by omega), mulW64 (by decide) (by omega), by decide, tyLst upd_same, divA_of 64 (by decide) (by decide) (by decide) (by decide), _, hpz _, _, hat, ?_⟩
        refine ⟨_, rfl, hyb.1, _, upd_same, by rw [List.length_map]; exact dl hd, by omega, ?_⟩
        generalize hX : Int.fdiv _ 11 = x
        refine ⟨ds ++ [x % szs[i]], ?_, key _ ds i hy hd _ (Int.emod_nonneg _ (by omega)) (Int.emod_lt_of_pos _ hyb.1)⟩
        rw [upd_upd, List.map_append]
        rfl
      · rintro σ H' ⟨o, v, u, ds, rfl, ho, rfl, hd⟩
        simp only [tSeq, tIfS, tOp, tVar, tC, tCB, tCons, tNil, rI0, rI, tTest, tRet, tRetN, tNext, tAsg, gName, gNil, gCons, gTup, gUnl, tLst, tTup, tCall, tMeth, tMake, tUn, rU, tAndV, tOrV, tNotV, tAnd, tOr, tNot, tIf, tB, tFld, tDrop, tPar, tNever, tBM, rAppend, tSl, tPart, tNoPart, tyLst, List.getElem?_cons_zero, List.getElem?_cons_succ, Option.some.injEq, exists_eq_left', exists_eq_left, V.int.injEq, V.bl.injEq, V.str.injEq, V.ref.injEq, List.set_cons_zero, List.set_cons_succ, exists_and_left, exists_and_right, and_assoc, List.cons.injEq, and_true, true_and, List.cons_append, List.nil_append, List.append_nil, List.length_cons, List.length_nil, exists_eq', exists_eq, exists_const, exists_eq_right, exists_eq_right', cxK, Cx.nox, Cx.wish]
        rw [Int.toNat_natCast, List.take_length] at hd
        exact q ds p hd hp
/-! ### _law_frac -/
def spFrac : Sp := fun vs H Q _ => ∃ t l : Int, vs = [.int t, .int l] ∧ l ≠ 0 ∧ t.natAbs < 2 ^ 4000 ∧ l.natAbs < 2 ^ 4000 ∧ ∀ p, H p = none → Q (.ref p) (upd H p (.tup [.int (fracT t l), .int (fracL t l)]))
theorem ok_l_frac (T : Txt a K mg) : FnOk P w K mg base CX0 1 a.f_l_frac a.d_l_frac ps_l_frac spFrac := by
  refine T.F_l_frac.ok sc_l_frac (fun vs H Q E h => ?_) (fun cdv A outer s H vs Q E hr h => ?_)
  · obtain ⟨t, l, rfl, _⟩ := h
    rfl
  · obtain ⟨t, l, rfl, hl, ht, hlb, q⟩ := h
    refine ⟨_, (pss_cons (ps_par (i := 2) (j := 3) (by rfl) sc_l_frac.nd rfl rfl (by decide) rfl rfl (pa_cons (pe_callB call_abs (by rfl) T.no_abs (by decide +kernel) (pa_cons (pv 0) pa_nil)) (pa_cons (pe_callB call_abs (by rfl) T.no_abs (by decide +kernel) (pa_cons (pv 1) pa_nil)) pa_nil)) (by rfl))
      (pss_cons (ps_while PassesOwn.never (pt_cmpR op_gt (pv 3) pe_int (nomark _)) (pss_one (ps_par (i := 2) (j := 3) (by rfl) sc_l_frac.nd rfl rfl (by decide) rfl rfl (pa_cons (pv 3) (pa_cons (pe_op op_mod (pv 2) (pv 3)) pa_nil)) (by rfl))))
      (pss_cons (ps_set (i := 4) sc_l_frac.nd rfl (by first | exact Or.inl rfl | exact Or.inr rfl) (pe_ifExp (pt_cmpR op_gt (pv 1) pe_int (nomark _)) pe_int (pe_un un_neg pe_int)))
      (pss_one (ps_ret (pe_tup (pa_cons (pe_op op_fdivA (pe_op op_mulW (pv 4) (pv 0)) (pv 2)) (pa_cons (pe_op op_fdivA (pe_callB call_abs (by rfl) T.no_abs (by decide +kernel) (pa_cons (pv 1) pa_nil)) (pv 2)) pa_nil)))))))), ?_⟩
    show tSeq _ _ _ [some (V.int t), some (V.int l), none, none, none] H
    simp only [tSeq, tIfS, tOp, tVar, tC, tCB, tCons, tNil, rI0, rI, tTest, tRet, tRetN, tNext, tAsg, gName, gNil, gCons, gTup, gUnl, tLst, tTup, tCall, tMeth, tMake, tUn, rU, tAndV, tOrV, tNotV, tAnd, tOr, tNot, tIf, tB, tFld, tDrop, tPar, tNever, tBM, rAppend, tSl, tPart, tNoPart, tyLst, List.getElem?_cons_zero, List.getElem?_cons_succ, Option.some.injEq, exists_eq_left', exists_eq_left, V.int.injEq, V.bl.injEq, V.str.injEq, V.ref.injEq, List.set_cons_zero, List.set_cons_succ, exists_and_left, exists_and_right, and_assoc, List.cons.injEq, and_true, true_and, List.cons_append, List.nil_append, List.append_nil, List.length_cons, List.length_nil, exists_eq', exists_eq, exists_const, exists_eq_right, exists_eq_right', cxK, Cx.nox, Cx.wish]
    refine while_by (fun σ H' => ∃ m n : Nat, σ = [some (V.int t), some (V.int l), some (V.int m), some (V.int n), none] ∧ H' = H ∧ Nat.gcd m n = Nat.gcd t.natAbs l.natAbs) (fun σ _ => match σ with | [_, _, _, some (V.int n), _] => n.natAbs | _ => 0)
      ⟨t.natAbs, l.natAbs, ?_, rfl, rfl⟩ ?_ ?_
    · rw [show (if t < 0 then -t else t) = (t.natAbs : Int) by split <;> omega, show (if l < 0 then -l else l) = (l.natAbs : Int) by split <;> omega]
    · rintro σ H' ⟨m, n, rfl, rfl, hg⟩
      simp only [tSeq, tIfS, tOp, tVar, tC, tCB, tCons, tNil, rI0, rI, tTest, tRet, tRetN, tNext, tAsg, gName, gNil, gCons, gTup, gUnl, tLst, tTup, tCall, tMeth, tMake, tUn, rU, tAndV, tOrV, tNotV, tAnd, tOr, tNot, tIf, tB, tFld, tDrop, tPar, tNever, tBM, rAppend, tSl, tPart, tNoPart, tyLst, List.getElem?_cons_zero, List.getElem?_cons_succ, Option.some.injEq, exists_eq_left', exists_eq_left, V.int.injEq, V.bl.injEq, V.str.injEq, V.ref.injEq, List.set_cons_zero, List.set_cons_succ, exists_and_left, exists_and_right, and_assoc, List.cons.injEq, and_true, true_and, List.cons_append, List.nil_append, List.append_nil, List.length_cons, List.length_nil, exists_eq', exists_eq, exists_const, exists_eq_right, exists_eq_right', cxK, Cx.nox, Cx.wish]
      refine ite2 (fun hb => ?_) (fun hb => ?_)
      · have hb := of_decide_eq_true hb
        refine ⟨hb, ⟨n, rfl, m % n, (Int.natCast_emod m n).symm, ?_⟩, ?_⟩
        · rw [Nat.gcd_comm, ← Nat.gcd_rec, Nat.gcd_comm]
          exact hg
        · show ((m : Int) % (n : Int)).natAbs < ((n : Int)).natAbs
          have h1 := Int.emod_lt_of_pos (m : Int) hb
          have h2 := Int.emod_nonneg (m : Int) (b := (n : Int)) (by omega)
          omega
      · have hb : ¬ (0 < (n : Int)) := fun z => hb (decide_eq_true z)
        obtain rfl : n = 0 := by omega
        rw [Nat.gcd_zero_right] at hg
        have em : (m : Int) = gcdI t l := by
          unfold gcdI
          rw [hg]
        rw [em]
        have hg0 := gcdI_pos (t := t) hl
        have hgb : (gcdI t l).natAbs < 2 ^ 4000 := Nat.lt_of_le_of_lt (gcdI_le hl) hlb
        have hd : ∀ i, CDivA i (gcdI t l) := fun i => divA_of 4000 (by omega) hgb (by decide) (by decide)
        have eL : (if l < 0 then -l else l).fdiv (gcdI t l) = fracL t l := by
          rw [show (if l < 0 then -l else l) = (l.natAbs : Int) by split <;> omega, Int.fdiv_eq_ediv_of_nonneg _ (by omega)]
          rfl
        have eT : ∀ s : Int, (s * t).fdiv (gcdI t l) = s * t / gcdI t l := fun s => Int.fdiv_eq_ediv_of_nonneg _ (by omega)
        rw [eL, eT, eT]
        refine ite2 (fun hp => ?_) (fun hp => ?_)
        · have hp := of_decide_eq_true hp
          have e : 1 * t / gcdI t l = fracT t l := by
            unfold fracT
            rw [if_pos hp]
          rw [e]
          exact ⟨mulWn 64 4000 (by decide) ht (by decide) (by decide) (by decide), hd _, hd _, by decide, fun p hp => q p hp⟩
        · have hp : ¬ 0 < l := fun z => hp (decide_eq_true z)
          have e : -1 * t / gcdI t l = fracT t l := by
            unfold fracT
            rw [if_neg hp]
          rw [e]
          exact ⟨mulWn 64 4000 (by decide) ht (by decide) (by decide) (by decide), hd _, hd _, by decide, fun p hp => q p hp⟩
    · intro σ H' Q1 Q2 hq h
      obtain ⟨v, h1, i, j, e1, e2, k, e3, h⟩ := h
      exact ⟨v, h1, i, j, e1, e2, k, e3, hq _ _ h⟩
/-! ### _law_whole, _law_same -/
def spWhole : Sp := fun vs H Q _ => ∃ i : Int, vs = [.int i] ∧ Q (.bl true) H
theorem ok_l_whole (T : Txt a K mg) : FnOk P w K mg base CX0 1 a.f_l_whole a.d_l_whole ps_l_whole spWhole := by
  refine T.F_l_whole.ok sc_l_whole (fun vs H Q E h => ?_) (fun cdv A outer s H vs Q E hr h => ?_)
  · obtain ⟨i, rfl, _⟩ := h
    rfl
  · obtain ⟨i, rfl, q⟩ := h
    refine ⟨_, (pss_one (ps_ret (pe_and (pe_callB call_isi (by rfl) T.no_isinstance (by decide +kernel) (pa_cons (pv 0) (pa_cons (pe_bltn (v := V.ty "int") (by rfl) T.no_int (by decide +kernel) rfl) pa_nil))) (pe_one (pe_not (pe_callB call_isi (by rfl) T.no_isinstance (by decide +kernel) (pa_cons (pv 0) (pa_cons (pe_bltn (v := V.ty "bool") (by rfl) T.no_bool (by decide +kernel) rfl) pa_nil)))))))), ?_⟩
    show tRet _ _ [some (V.int i)] H
    simp only [rIsi, tSeq, tIfS, tOp, tVar, tC, tCB, tCons, tNil, rI0, rI, tTest, tRet, tRetN, tNext, tAsg, gName, gNil, gCons, gTup, gUnl, tLst, tTup, tCall, tMeth, tMake, tUn, rU, tAndV, tOrV, tNotV, tAnd, tOr, tNot, tIf, tB, tFld, tDrop, tPar, tNever, tBM, rAppend, tSl, tPart, tNoPart, tyLst, List.getElem?_cons_zero, List.getElem?_cons_succ, Option.some.injEq, exists_eq_left', exists_eq_left, V.int.injEq, V.bl.injEq, V.str.injEq, V.ref.injEq, List.set_cons_zero, List.set_cons_succ, exists_and_left, exists_and_right, and_assoc, List.cons.injEq, and_true, true_and, List.cons_append, List.nil_append, List.append_nil, List.length_cons, List.length_nil, exists_eq', exists_eq, exists_const, exists_eq_right, exists_eq_right', cxK, Cx.nox, Cx.wish]
    refine ⟨_, _, .ty "int", .base (.int i), true, L2.kit_ty (by decide +kernel), iteT ?_⟩
    exact ⟨_, _, .ty "bool", .base (.int i), false, L2.kit_ty (by decide +kernel), q⟩
def spSame : Sp := fun vs H Q _ => ∃ x : V, vs = [x, x] ∧ ((∃ i, x = .int i ∧ i.natAbs.log2 < 1920) ∨ ∃ y n, x = .str y ∧ Small y n ∧ n ≤ 1000000) ∧ Q (.bl true) H
theorem ok_l_same (T : Txt a K mg) : FnOk P w K mg base CX0 1 a.f_l_same a.d_l_same ps_l_same spSame := by
  refine T.F_l_same.ok sc_l_same (fun vs H Q E h => ?_) (fun cdv A outer s H vs Q E hr h => ?_)
  · obtain ⟨x, rfl, _⟩ := h
    rfl
  · obtain ⟨x, rfl, hx, q⟩ := h
    refine ⟨_, (pss_cons (ps_if (pt_val (pe_callB call_isi (by rfl) T.no_isinstance (by decide +kernel) (pa_cons (pv 1) (pa_cons (pe_bltn (v := V.ty "dict") (by rfl) T.no_dict (by decide +kernel) rfl) pa_nil)))) (pss_one ps_never) pss_nil)
      (pss_one (ps_ret (pe_and (pe_cmpR (op_eqD hr.units) (pv 0) (pv 1) (nomark _)) (pe_one (pe_cmpR op_eq (pe_callB call_repr_flat (by rfl) T.no_repr (by decide +kernel) (pa_cons (pv 0) pa_nil)) (pe_callB call_repr_flat (by rfl) T.no_repr (by decide +kernel) (pa_cons (pv 1) pa_nil)) (nomark _))))))), ?_⟩
    show tSeq _ _ _ [some x, some x] H
    simp only [rIsi, rEqD, rReprF, rEq, tSeq, tIfS, tOp, tVar, tC, tCB, tCons, tNil, rI0, rI, tTest, tRet, tRetN, tNext, tAsg, gName, gNil, gCons, gTup, gUnl, tLst, tTup, tCall, tMeth, tMake, tUn, rU, tAndV, tOrV, tNotV, tAnd, tOr, tNot, tIf, tB, tFld, tDrop, tPar, tNever, tBM, rAppend, tSl, tPart, tNoPart, tyLst, List.getElem?_cons_zero, List.getElem?_cons_succ, Option.some.injEq, exists_eq_left', exists_eq_left, V.int.injEq, V.bl.injEq, V.str.injEq, V.ref.injEq, List.set_cons_zero, List.set_cons_succ, exists_and_left, exists_and_right, and_assoc, List.cons.injEq, and_true, true_and, List.cons_append, List.nil_append, List.append_nil, List.length_cons, List.length_nil, exists_eq', exists_eq, exists_const, exists_eq_right, exists_eq_right', cxK, Cx.nox, Cx.wish]
    rcases hx with ⟨i, rfl, hi⟩ | ⟨y, n, rfl, hy, hn⟩
    · refine ⟨_, _, .ty "dict", .base (.int i), false, L2.kit_ty (by decide +kernel), iteF ?_⟩
      refine ⟨.int i, .int i, .int i, .int i, rfl, rfl, ?_⟩
      rw [if_pos (show PyData.eqv (.int i) (.int i) = true by simp [PyData.eqv])]
      refine .inl ⟨i, rfl, hi, .inl ⟨i, rfl, hi, rfl, ?_⟩⟩
      rw [decide_eq_true rfl]
      exact q
    · refine ⟨_, _, .ty "dict", .base (.str y), false, L2.kit_ty (by decide +kernel), iteF ?_⟩
      refine ⟨.str y, .str y, .str y, .str y, shaped_str hy, shaped_str hy, ?_⟩
      rw [if_pos (show PyData.eqv (.str y) (.str y) = true by simp [PyData.eqv])]
      refine .inr ⟨y, rfl, hy.repr hn, .inr ⟨y, rfl, hy.repr hn, rfl, ?_⟩⟩
      rw [decide_eq_true rfl]
      exact q
/-! ### Part -/
def spPartInit (C : Addr) : Sp := fun vs H Q _ => ∃ (p dx : Addr) (t l : Int), vs = [.ref p, .int t, .int l] ∧ H p = some (.ins C dx []) ∧ l ≠ 0 ∧ t.natAbs < 2 ^ 4000 ∧ l.natAbs < 2 ^ 4000 ∧ Q .non (upd H p (.ins C dx (fsP (fracT t l) (fracL t l))))
theorem ok_Part_init (T : Txt a K mg) : FnOk P w K mg base CX0 1 a.f_Part_init a.d_Part_init ps_Part_init (spPartInit a.C_Part) := by
  refine okD T.F_Part_init sc_Part_init (fun vs H Q E h => ?_) (fun cdv A outer s H vs Q E hr h => ?_)
  · obtain ⟨p, dx, t, l, rfl, _⟩ := h
    rfl
  · obtain ⟨p, dx, t, l, rfl, hp, hl, ht, hlb, q⟩ := h
    refine ⟨_, (pss_cons (ps_if (pt_cmpR op_eq (pv 2) pe_int (nomark _)) (pss_one ps_never) pss_nil)
      (pss_cons (ps_set (i := 3) sc_Part_init.nd rfl (by first | exact Or.inl rfl | exact Or.inr rfl) (pe_callBfun cr_gcd (by rfl) T.mg_gcd (pa_cons (pv 1) (pa_cons (pv 2) pa_nil))))
      (pss_cons (ps_if (pt_cmpR op_lt (pv 2) pe_int (nomark _)) (pss_one (ps_set (i := 3) sc_Part_init.nd rfl (by first | exact Or.inl rfl | exact Or.inr rfl) (pe_un un_neg (pv 3)))) pss_nil)
      (pss_cons (ps_fld (pv 0) (pe_op op_fdivA (pv 1) (pv 3)) rfl)
      (pss_one (ps_fld (pv 0) (pe_op op_fdivA (pv 2) (pv 3)) rfl)))))), ?_⟩
    show tSeq _ _ _ [some (V.ref p), some (V.int t), some (V.int l), none] H
    simp only [rEq, rGcd, sFld, tSeq, tIfS, tOp, tVar, tC, tCB, tCons, tNil, rI0, rI, tTest, tRet, tRetN, tNext, tAsg, gName, gNil, gCons, gTup, gUnl, tLst, tTup, tCall, tMeth, tMake, tUn, rU, tAndV, tOrV, tNotV, tAnd, tOr, tNot, tIf, tB, tFld, tDrop, tPar, tNever, tBM, rAppend, tSl, tPart, tNoPart, tyLst, List.getElem?_cons_zero, List.getElem?_cons_succ, Option.some.injEq, exists_eq_left', exists_eq_left, V.int.injEq, V.bl.injEq, V.str.injEq, V.ref.injEq, List.set_cons_zero, List.set_cons_succ, exists_and_left, exists_and_right, and_assoc, List.cons.injEq, and_true, true_and, List.cons_append, List.nil_append, List.append_nil, List.length_cons, List.length_nil, exists_eq', exists_eq, exists_const, exists_eq_right, exists_eq_right', cxK, Cx.nox, Cx.wish]
    have hg0 := gcdI_pos (t := t) hl
    have hgb : (gcdI t l).natAbs < 2 ^ 4000 := Nat.lt_of_le_of_lt (gcdI_le hl) hlb
    refine ⟨rfl, ?_⟩
    rw [decide_eq_false hl]
    refine iteF (ite2 (fun hn => ?_) (fun hn => ?_))
    · have hn := of_decide_eq_true hn
      have e := frac_neg (t := t) hn
      unfold gcdI at e
      have hd : ∀ i, CDivA i (-((Nat.gcd t.natAbs l.natAbs : Nat) : Int)) := fun i => divA_of 4000 (by unfold gcdI at hg0; omega) (by rw [Int.natAbs_neg]; exact hgb) (by decide) (by decide)
      rw [e.1, e.2]
      refine ⟨hd _, _, _, _, hp, T.cl_Part, T.na_Part_top, (by show 0 < 1000; decide), hd _, _, _, _, upd_same, T.cl_Part, T.na_Part_low, (by show 1 < 1000; decide), ?_⟩
      rw [upd_upd]
      exact q
    · have hn : ¬ l < 0 := fun z => hn (decide_eq_true z)
      have e := frac_pos (t := t) (l := l) (by omega)
      unfold gcdI at e
      have hd : ∀ i, CDivA i ((Nat.gcd t.natAbs l.natAbs : Nat) : Int) := fun i => divA_of 4000 (by unfold gcdI at hg0; omega) hgb (by decide) (by decide)
      rw [e.1, e.2]
      refine ⟨hd _, _, _, _, hp, T.cl_Part, T.na_Part_top, (by show 0 < 1000; decide), hd _, _, _, _, upd_same, T.cl_Part, T.na_Part_low, (by show 1 < 1000; decide), ?_⟩
      rw [upd_upd]
      exact q
def spSign (C : Addr) : Sp := fun vs H Q _ => ∃ (p : Addr) (t l : Int), vs = [.ref p] ∧ PartAt C H p t l ∧ Q (.int (sgn t)) H
theorem ok_Part_sign (T : Txt a K mg) : FnOk P w K mg base CX0 1 a.f_Part_sign a.d_Part_sign ps_Part_sign (spSign a.C_Part) := by
  refine T.F_Part_sign.ok sc_Part_sign (fun vs H Q E h => ?_) (fun cdv A outer s H vs Q E hr h => ?_)
  · obtain ⟨p, t, l, rfl, _⟩ := h
    rfl
  · obtain ⟨p, t, l, rfl, ⟨dx, hp⟩, q⟩ := h
    refine ⟨_, (pss_cons (ps_if (pt_cmpR op_eq (pe_fld (pv 0) rfl) pe_int (nomark _)) (pss_one (ps_ret pe_int)) pss_nil)
      (pss_one (ps_ret (pe_ifExp (pt_cmpR op_gt (pe_fld (pv 0) rfl) pe_int (nomark _)) pe_int (pe_un un_neg pe_int))))), ?_⟩
    show tSeq _ _ _ [some (V.ref p)] H
    simp only [rEq, tSeq, tIfS, tOp, tVar, tC, tCB, tCons, tNil, rI0, rI, tTest, tRet, tRetN, tNext, tAsg, gName, gNil, gCons, gTup, gUnl, tLst, tTup, tCall, tMeth, tMake, tUn, rU, tAndV, tOrV, tNotV, tAnd, tOr, tNot, tIf, tB, tFld, tDrop, tPar, tNever, tBM, rAppend, tSl, tPart, tNoPart, tyLst, List.getElem?_cons_zero, List.getElem?_cons_succ, Option.some.injEq, exists_eq_left', exists_eq_left, V.int.injEq, V.bl.injEq, V.str.injEq, V.ref.injEq, List.set_cons_zero, List.set_cons_succ, exists_and_left, exists_and_right, and_assoc, List.cons.injEq, and_true, true_and, List.cons_append, List.nil_append, List.append_nil, List.length_cons, List.length_nil, exists_eq', exists_eq, exists_const, exists_eq_right, exists_eq_right', cxK, Cx.nox, Cx.wish]
    refine ⟨_, _, _, hp, T.cl_Part, T.na_Part_top, _, fsP_top t l, rfl, ite2 (fun h0 => ?_) (fun h0 => ?_)⟩
    · have h0 : t = 0 := V.int.inj (of_decide_eq_true h0)
      rw [show (0 : Int) = sgn t by unfold sgn; rw [if_pos h0]]
      exact q
    · have h0 : ¬ t = 0 := fun z => h0 (decide_eq_true (congrArg V.int z))
      refine ⟨_, _, _, hp, T.cl_Part, T.na_Part_top, _, fsP_top t l, t, rfl, ite2 (fun h1 => ?_) (fun h1 => ?_)⟩
      · have h1 := of_decide_eq_true h1
        rw [show (1 : Int) = sgn t by unfold sgn; rw [if_neg h0, if_pos h1]]
        exact q
      · have h1 : ¬ 0 < t := fun z => h1 (decide_eq_true z)
        rw [show (-1 : Int) = sgn t by unfold sgn; rw [if_neg h0, if_neg h1]]
        exact q
def spPartEq (K : PySem.W.Frag) (C : Addr) : Sp := fun vs H Q _ => ∃ (p : Addr) (t l : Int) (y : V), vs = [.ref p, y] ∧ PartAt C H p t l ∧
  ((∃ (q : Addr) (t2 l2 : Int), y = .ref q ∧ PartAt C H q t2 l2 ∧ Q (.bl (decide (t = t2) && decide (l = l2))) H) ∨ ∃ ty, TyX K H y ty ∧ PySem.W.kitOne K ty (.ref C) = some false ∧ Q (.bl false) H)
theorem ty_Part (T : Txt a K mg) {H : Hp} {p dx : Addr} {fs : List (Str × V)} (h : H p = some (.ins a.C_Part dx fs)) : TyX K H (.ref p) (.ref a.C_Part) := .base (.ins h T.cl_Part T.cc_Part T.cget T.ctk T.mro_Part)
theorem ty_Purse (T : Txt a K mg) {H : Hp} {p dx : Addr} {fs : List (Str × V)} (h : H p = some (.ins a.C_Purse dx fs)) : TyX K H (.ref p) (.ref a.C_Purse) := .base (.ins h T.cl_Purse T.cc_Purse T.cget T.ctk T.mro_Purse)
theorem ok_Part_eq (T : Txt a K mg) : FnOk P w K mg base CX0 1 a.f_Part_eq a.d_Part_eq ps_Part_eq (spPartEq K a.C_Part) := by
  refine T.F_Part_eq.ok sc_Part_eq (fun vs H Q E h => ?_) (fun cdv A outer s H vs Q E hr h => ?_)
  · obtain ⟨p, t, l, y, rfl, _⟩ := h
    rfl
  · obtain ⟨p, t, l, y, rfl, ⟨dx, hp⟩, h⟩ := h
    refine ⟨_, (pss_one (ps_ret (pe_and (pe_callB call_isi (by rfl) T.no_isinstance (by decide +kernel) (pa_cons (pv 1) (pa_cons (pe_glob (v := V.ref a.C_Part) rfl T.mg_Part rfl) pa_nil))) (pe_and (pe_cmpR op_eq (pe_fld (pv 0) rfl) (pe_fld (pv 1) rfl) (nomark _)) (pe_one (pe_cmpR op_eq (pe_fld (pv 0) rfl) (pe_fld (pv 1) rfl) (nomark _))))))), ?_⟩
    show tRet _ _ [some (V.ref p), some y] H
    simp only [rIsi, rEq, tSeq, tIfS, tOp, tVar, tC, tCB, tCons, tNil, rI0, rI, tTest, tRet, tRetN, tNext, tAsg, gName, gNil, gCons, gTup, gUnl, tLst, tTup, tCall, tMeth, tMake, tUn, rU, tAndV, tOrV, tNotV, tAnd, tOr, tNot, tIf, tB, tFld, tDrop, tPar, tNever, tBM, rAppend, tSl, tPart, tNoPart, tyLst, List.getElem?_cons_zero, List.getElem?_cons_succ, Option.some.injEq, exists_eq_left', exists_eq_left, V.int.injEq, V.bl.injEq, V.str.injEq, V.ref.injEq, List.set_cons_zero, List.set_cons_succ, exists_and_left, exists_and_right, and_assoc, List.cons.injEq, and_true, true_and, List.cons_append, List.nil_append, List.append_nil, List.length_cons, List.length_nil, exists_eq', exists_eq, exists_const, exists_eq_right, exists_eq_right', cxK, Cx.nox, Cx.wish]
    rcases h with ⟨q, t2, l2, rfl, ⟨dy, hq⟩, h⟩ | ⟨ty, h1, h2, h⟩
    · refine ⟨_, _, .own a.C_Part, ty_Part T hq, true, T.kit_Part_Part, iteT ?_⟩
      refine ⟨_, _, _, hp, T.cl_Part, T.na_Part_top, _, fsP_top t l, q, rfl, _, _, _, hq, T.cl_Part, T.na_Part_top, _, fsP_top t2 l2, rfl, ite2 (fun h0 => ?_) (fun h0 => ?_)⟩
      · have h0 : t = t2 := V.int.inj (of_decide_eq_true h0)
        refine ⟨_, _, _, hp, T.cl_Part, T.na_Part_low, _, fsP_low t l, q, rfl, _, _, _, hq, T.cl_Part, T.na_Part_low, _, fsP_low t2 l2, rfl, ?_⟩
        rw [decide_eq_true h0, Bool.true_and] at h
        rw [show decide (V.int l = V.int l2) = decide (l = l2) from decide_eq_decide.mpr ⟨V.int.inj, congrArg V.int⟩]
        exact h
      · have h0 : ¬ t = t2 := fun z => h0 (decide_eq_true (congrArg V.int z))
        rw [decide_eq_false h0, Bool.false_and] at h
        exact h
    · exact ⟨_, _, .own a.C_Part, h1, false, h2, iteF h⟩
def spPartRepr (C : Addr) : Sp := fun vs H Q _ => ∃ (p : Addr) (t l : Int), vs = [.ref p] ∧ PartAt C H p t l ∧ t.natAbs.log2 < 1920 ∧ l.natAbs.log2 < 1920 ∧ Q (.str (showP t l)) H
theorem ok_Part_repr (T : Txt a K mg) : FnOk P w K mg base CX0 1 a.f_Part_repr a.d_Part_repr ps_Part_repr (spPartRepr a.C_Part) := by
  refine T.F_Part_repr.ok sc_Part_repr (fun vs H Q E h => ?_) (fun cdv A outer s H vs Q E hr h => ?_)
  · obtain ⟨p, t, l, rfl, _⟩ := h
    rfl
  · obtain ⟨p, t, l, rfl, ⟨dx, hp⟩, ht, hl, q⟩ := h
    refine ⟨_, (pss_cons (ps_if (pt_cmpR op_eq (pe_fld (pv 0) rfl) pe_int (nomark _)) (pss_one (ps_ret (pe_callTy call_str_int (by rfl) T.no_str (by decide +kernel) (pa_cons (pe_fld (pv 0) rfl) pa_nil)))) pss_nil)
      (pss_one (ps_ret (pe_joined (.cons (pe_fmt (pe_fld (pv 0) rfl)) (.cons pe_str (.cons (pe_fmt (pe_fld (pv 0) rfl)) .nil))))))), ?_⟩
    show tSeq _ _ _ [some (V.ref p)] H
    simp only [rEq, tFmt, tJs, tSeq, tIfS, tOp, tVar, tC, tCB, tCons, tNil, rI0, rI, tTest, tRet, tRetN, tNext, tAsg, gName, gNil, gCons, gTup, gUnl, tLst, tTup, tCall, tMeth, tMake, tUn, rU, tAndV, tOrV, tNotV, tAnd, tOr, tNot, tIf, tB, tFld, tDrop, tPar, tNever, tBM, rAppend, tSl, tPart, tNoPart, tyLst, List.getElem?_cons_zero, List.getElem?_cons_succ, Option.some.injEq, exists_eq_left', exists_eq_left, V.int.injEq, V.bl.injEq, V.str.injEq, V.ref.injEq, List.set_cons_zero, List.set_cons_succ, exists_and_left, exists_and_right, and_assoc, List.cons.injEq, and_true, true_and, List.cons_append, List.nil_append, List.append_nil, List.length_cons, List.length_nil, exists_eq', exists_eq, exists_const, exists_eq_right, exists_eq_right', cxK, Cx.nox, Cx.wish]
    refine ⟨_, _, _, hp, T.cl_Part, T.na_Part_low, _, fsP_low t l, rfl, ite2 (fun h0 => ?_) (fun h0 => ?_)⟩
    · have h0 : l = 1 := V.int.inj (of_decide_eq_true h0)
      refine ⟨_, _, _, hp, T.cl_Part, T.na_Part_top, _, fsP_top t l, t, rfl, ht, ?_⟩
      unfold showP at q
      rw [if_pos h0] at q
      exact q
    · have h0 : ¬ l = 1 := fun z => h0 (decide_eq_true (congrArg V.int z))
      unfold showP at q
      rw [if_neg h0] at q
      have st := Small.int ht
      have sl := Small.int hl
      have e1 : (Str.empty ++ ((toString t : String) : Str)) = ((toString t : String) : Str) := Str.empty_append _
      have s1 : Small (((toString t : String) : Str) ++ Str.ofString "/") 1922 := st.app (m := 1) ⟨by decide +kernel, by decide +kernel⟩
      have s2 := s1.app sl
      have hz : sizeLine = 16777216 := rfl
      refine ⟨_, _, _, hp, T.cl_Part, T.na_Part_top, _, fsP_top t l, .inr ⟨t, rfl, ht, ?_⟩⟩
      rw [e1]
      refine ⟨by have := st.len; omega, by have := s1.len; omega, _, _, _, hp, T.cl_Part, T.na_Part_low, _, fsP_low t l, .inr ⟨l, rfl, hl, by have := s2.len; omega, q⟩⟩
/-! ### Purse: of one row -/
def spPurse1 (C CP : Addr) : Sp := fun vs H Q _ => ∃ (p dx r tp q : Addr) (x : Str) (t l : Int), vs = [.ref p, .ref r] ∧ H p = some (.ins C dx []) ∧ H r = some (.lst [.ref tp]) ∧ H tp = some (.tup [.str x, .ref q]) ∧ PartAt CP H q t l ∧
  ∀ H' fs, (∀ b o, H b = some o → b ≠ p → H' b = some o) → H' p = some (.ins C dx fs) → Q .non H'
theorem ok_Purse_init (T : Txt a K mg) : FnOk P w K mg base CX0 2 a.f_Purse_init a.d_Purse_init ps_Purse_init (spPurse1 a.C_Purse a.C_Part) := by
  refine okD T.F_Purse_init sc_Purse_init (fun vs H Q E h => ?_) (fun cdv A outer s H vs Q E hr h => ?_)
  · obtain ⟨p, dx, r, tp, q, x, t, l, rfl, _⟩ := h
    rfl
  · obtain ⟨p, dx, r, tp, q, x, t, l, rfl, hp, hr0, htp, hq, k⟩ := h
    have hu := hu_of hr
    have G_Part_sign := ok_Part_sign (P := P) (w := w) (base := base) T
    have B_Part_sign := bnd_Part_sign T
    have hr_Part_sign : Room 1 _ := hr.mono (by decide)
    refine ⟨_, (pss_cons (ps_set (i := 2) sc_Purse_init.nd rfl (by first | exact Or.inl rfl | exact Or.inr rfl) pe_dnewK)
      (pss_cons (ps_for PassesOwn.never rfl (pi_list (pv 1)) (pg_tup rfl (pgs_cons (pg_name (i := 3) sc_Purse_init.nd rfl (by first | exact Or.inl rfl | exact Or.inr rfl)) (pgs_cons (pg_name (i := 4) sc_Purse_init.nd rfl (by first | exact Or.inl rfl | exact Or.inr rfl)) pgs_nil)) (by rfl))
        (pss_one (ps_dput hu (pv 2) (pv 3) (pe_ifExp (pt_cmp (pc_din hu (pv 3) (pv 2))) pe_never (pv 4)) rfl)))
      (pss_one (ps_fld (pv 0) (pe_dc (own := [("coin", 3)]) (g := gName 3) rfl sc_Purse_init.nd (pi_list (pe_callB (cr_sortN rfl) (by rfl) T.no_sorted (by decide +kernel) (pa_cons (pv 2) pa_nil))) (blkOk_by (own := [("coin", 3)]) (N := N_Purse_init) (sc := defScope s_Purse_init) (by decide +kernel)) (fun _ _ _ _ _ => pg_name (i := 3) sc_Purse_init.nd rfl (Or.inl rfl)) (fun _ _ _ _ _ => (pts_one (pt_cmpR op_ne (pe_meth0 (pe_dget hu (pv 2) (pv 3) (fun _ _ => rfl)) T.cl_Part T.m_Part_sign G_Part_sign hr_Part_sign B_Part_sign .nil pass0) pe_int (nomark _)))) (fun _ _ _ _ _ => (pv 3)) (fun _ _ _ _ _ => (pe_dget hu (pv 2) (pv 3) (fun _ _ => rfl)))) rfl)))), ?_⟩
    show tSeq _ _ _ [some (V.ref p), some (V.ref r), none, none, none] H
    simp only [tSeq, tIfS, tOp, tVar, tC, tCB, tCons, tNil, rI0, rI, tTest, tRet, tRetN, tNext, tAsg, gName, gNil, gCons, gTup, gUnl, tLst, tTup, tCall, tMeth, tMake, tUn, rU, tAndV, tOrV, tNotV, tAnd, tOr, tNot, tIf, tB, tFld, tDrop, tPar, tNever, tBM, rAppend, tSl, tPart, tNoPart, tyLst, List.getElem?_cons_zero, List.getElem?_cons_succ, Option.some.injEq, exists_eq_left', exists_eq_left, V.int.injEq, V.bl.injEq, V.str.injEq, V.ref.injEq, List.set_cons_zero, List.set_cons_succ, exists_and_left, exists_and_right, and_assoc, List.cons.injEq, and_true, true_and, List.cons_append, List.nil_append, List.append_nil, List.length_cons, List.length_nil, exists_eq', exists_eq, exists_const, exists_eq_right, exists_eq_right', cxK, Cx.nox, Cx.wish]
    intro d hd
    have ed : ∀ u, Ext H (upd H d u) := fun u => Ext.upd hd
    refine for_listI (a := r) (xs := [V.ref tp]) rfl (ofL (ed _ _ _ hr0)) (fun i σ H' => (i = 0 ∧ σ = [some (V.ref p), some (V.ref r), some (V.ref d), none, none] ∧ H' = upd H d (.dK [])) ∨
        (i = 1 ∧ σ = [some (V.ref p), some (V.ref r), some (V.ref d), some (V.str x), some (V.ref q)] ∧ H' = upd H d (.dK [(Sum.inr x, V.ref q)]))) (.inl ⟨rfl, rfl, rfl⟩) ?_ ?_ ?_
    · rintro i σ H' _ (⟨_, _, rfl⟩ | ⟨_, _, rfl⟩)
      · exact ofL (ed _ _ _ hr0)
      · exact ofL (ed _ _ _ hr0)
    · rintro i y σ H' hy (⟨rfl, rfl, rfl⟩ | ⟨rfl, rfl, rfl⟩)
      · obtain rfl : y = V.ref tp := (Option.some.inj hy).symm
        simp only [tDIn, sDPut, tSeq, tIfS, tOp, tVar, tC, tCB, tCons, tNil, rI0, rI, tTest, tRet, tRetN, tNext, tAsg, gName, gNil, gCons, gTup, gUnl, tLst, tTup, tCall, tMeth, tMake, tUn, rU, tAndV, tOrV, tNotV, tAnd, tOr, tNot, tIf, tB, tFld, tDrop, tPar, tNever, tBM, rAppend, tSl, tPart, tNoPart, tyLst, List.getElem?_cons_zero, List.getElem?_cons_succ, Option.some.injEq, exists_eq_left', exists_eq_left, V.int.injEq, V.bl.injEq, V.str.injEq, V.ref.injEq, List.set_cons_zero, List.set_cons_succ, exists_and_left, exists_and_right, and_assoc, List.cons.injEq, and_true, true_and, List.cons_append, List.nil_append, List.append_nil, List.length_cons, List.length_nil, exists_eq', exists_eq, exists_const, exists_eq_right, exists_eq_right', cxK, Cx.nox, Cx.wish]
        refine ⟨_, ofT (ed _ _ _ htp), rfl, ?_⟩
        simp only [tSeq, tIfS, tOp, tVar, tC, tCB, tCons, tNil, rI0, rI, tTest, tRet, tRetN, tNext, tAsg, gName, gNil, gCons, gTup, gUnl, tLst, tTup, tCall, tMeth, tMake, tUn, rU, tAndV, tOrV, tNotV, tAnd, tOr, tNot, tIf, tB, tFld, tDrop, tPar, tNever, tBM, rAppend, tSl, tPart, tNoPart, tyLst, List.getElem?_cons_zero, List.getElem?_cons_succ, Option.some.injEq, exists_eq_left', exists_eq_left, V.int.injEq, V.bl.injEq, V.str.injEq, V.ref.injEq, List.set_cons_zero, List.set_cons_succ, exists_and_left, exists_and_right, and_assoc, List.cons.injEq, and_true, true_and, List.cons_append, List.nil_append, List.append_nil, List.length_cons, List.length_nil, exists_eq', exists_eq, exists_const, exists_eq_right, exists_eq_right', cxK, Cx.nox, Cx.wish]
        refine ⟨_, DGet.k (k := Sum.inr x) upd_same, ?_⟩
        refine iteF ⟨_, DPut.k (k := Sum.inr x) upd_same (by decide), ?_⟩
        rw [upd_upd]
        exact .inr rfl
      · cases hy
    · rintro σ H' (⟨h, _, _⟩ | ⟨_, rfl, rfl⟩)
      · cases h
      · generalize hH1 : upd H d (.dK [(Sum.inr x, V.ref q)]) = H1
        have e1 : Ext H H1 := hH1 ▸ ed _
        have f1 : H1 d = some (.dK [(Sum.inr x, V.ref q)]) := hH1 ▸ upd_same
        clear hH1
        simp only [sFld, tSeq, tIfS, tOp, tVar, tC, tCB, tCons, tNil, rI0, rI, tTest, tRet, tRetN, tNext, tAsg, gName, gNil, gCons, gTup, gUnl, tLst, tTup, tCall, tMeth, tMake, tUn, rU, tAndV, tOrV, tNotV, tAnd, tOr, tNot, tIf, tB, tFld, tDrop, tPar, tNever, tBM, rAppend, tSl, tPart, tNoPart, tyLst, List.getElem?_cons_zero, List.getElem?_cons_succ, Option.some.injEq, exists_eq_left', exists_eq_left, V.int.injEq, V.bl.injEq, V.str.injEq, V.ref.injEq, List.set_cons_zero, List.set_cons_succ, exists_and_left, exists_and_right, and_assoc, List.cons.injEq, and_true, true_and, List.cons_append, List.nil_append, List.append_nil, List.length_cons, List.length_nil, exists_eq', exists_eq, exists_const, exists_eq_right, exists_eq_right', cxK, Cx.nox, Cx.wish]
        refine dc_sorted (ks := [x]) rfl f1 rfl (by show 1 < 64; decide) fun ys s0 D H2 hy _ e2 f2 hD => ?_
        obtain rfl : ys = [x] := List.perm_singleton.mp hy
        have f1' : H2 d = some (.dK [(Sum.inr x, V.ref q)]) := e2 _ _ f1
        have e3 : ∀ u, Ext H2 (upd H2 D u) := fun u => Ext.upd hD
        refine ⟨fun i H' => ∃ kvs, H' = upd H2 D (.dK kvs) ∧ kvs.length ≤ i, ⟨[], rfl, Nat.le_refl _⟩, ?_, ?_, ?_⟩
        · rintro i H' ⟨kvs, rfl, _⟩
          exact e3 _ _ _ f2
        · rintro i y H' hy2 ⟨kvs, rfl, hk⟩
          have hi : i = 0 := by
            have := (List.getElem?_eq_some_iff.mp hy2).1
            simp at this
            exact this
          subst hi
          obtain rfl : y = x := (Option.some.inj hy2).symm
          refine ⟨rfl, ?_⟩
          have ew : (wipe [some (V.ref p), some (V.ref r), some (V.ref d), some (V.str y), some (V.ref q)] (List.map (fun x => x.snd) [(Str.ofString "coin", 3)])) = [some (V.ref p), some (V.ref r), some (V.ref d), none, some (V.ref q)] := rfl
          have fd : upd H2 D (.dK kvs) d = some (.dK [(Sum.inr y, V.ref q)]) := e3 _ _ _ f1'
          have ev : valV [((Sum.inr y : Key), V.ref q)] (Sum.inr y) = some (V.ref q) := by simp [valV]
          obtain ⟨dq, hq'⟩ := hq
          have hq2 : ∀ u, upd H2 D u q = some (.ins a.C_Part dq (fsP t l)) := fun u => e3 _ _ _ (e2 _ _ (e1 _ _ hq'))
          simp only [ew, tDGet, rNe, tSeq, tIfS, tOp, tVar, tC, tCB, tCons, tNil, rI0, rI, tTest, tRet, tRetN, tNext, tAsg, gName, gNil, gCons, gTup, gUnl, tLst, tTup, tCall, tMeth, tMake, tUn, rU, tAndV, tOrV, tNotV, tAnd, tOr, tNot, tIf, tB, tFld, tDrop, tPar, tNever, tBM, rAppend, tSl, tPart, tNoPart, tyLst, List.getElem?_cons_zero, List.getElem?_cons_succ, Option.some.injEq, exists_eq_left', exists_eq_left, V.int.injEq, V.bl.injEq, V.str.injEq, V.ref.injEq, List.set_cons_zero, List.set_cons_succ, exists_and_left, exists_and_right, and_assoc, List.cons.injEq, and_true, true_and, List.cons_append, List.nil_append, List.append_nil, List.length_cons, List.length_nil, exists_eq', exists_eq, exists_const, exists_eq_right, exists_eq_right', cxK, Cx.nox, Cx.wish]
          refine ⟨V.ref q, ev ▸ DGet.k (k := Sum.inr y) fd, q, rfl, _, _, hq2 _, fsP_no t l (m := "sign") (by decide +kernel) (by decide +kernel), q, t, l, rfl, ⟨dq, hq2 _⟩, rfl, ite2 (fun _ => ?_) (fun _ => ?_)⟩
          · obtain rfl : kvs = [] := List.length_eq_zero_iff.mp (by omega)
            refine ⟨V.ref q, ev ▸ DGet.k (k := Sum.inr y) fd, [], Sum.inr y, rfl, upd_same, (by decide), _, upd_upd, ?_⟩
            show 1 ≤ 1
            decide
          · exact ⟨kvs, rfl, by omega⟩
        · rintro H' ⟨kvs, rfl, _⟩
          have hp2 : upd H2 D (.dK kvs) p = some (.ins a.C_Purse dx []) := e3 _ _ _ (e2 _ _ (e1 _ _ hp))
          refine ⟨_, _, _, hp2, T.cl_Purse, T.na_Purse__held, (by show 0 < 1000; decide), ?_⟩
          refine k _ _ (fun b o hb hne => ?_) upd_same
          rw [upd_ne hne]
          exact e3 _ _ _ (e2 _ _ (e1 _ _ hb))
/-! ### steps of the law -/
theorem mk_part {C x dx : Addr} {H : Hp} {t l : Int} {Q : VK} {E : XK} (hx : H x = none) (hd : H dx = none) (hl : l ≠ 0) (ht : t.natAbs < 2 ^ 4000) (hb : l.natAbs < 2 ^ 4000) (k : ∀ H', Ext H H' → H' x = some (.ins C dx (fsP (fracT t l) (fracL t l))) → Q .non H') :
    spPartInit C [.ref x, .int t, .int l] (upd (upd H dx (.own x)) x (.ins C dx [])) Q E := by
  refine ⟨x, dx, t, l, rfl, upd_same, hl, ht, hb, ?_⟩
  generalize hh : upd (upd (upd H dx _) x _) x _ = H'
  obtain ⟨e, f⟩ := makeP hx hd hh
  exact k H' e f
theorem eq_pp {C p q dp dq : Addr} {H : Hp} {t l t2 l2 : Int} {Q : VK} {E : XK} (hp : H p = some (.ins C dp (fsP t l))) (hq : H q = some (.ins C dq (fsP t2 l2))) (k : Q (.bl (decide (t = t2) && decide (l = l2))) H) : spPartEq K C [.ref p, .ref q] H Q E :=
  ⟨p, t, l, _, rfl, ⟨_, hp⟩, .inl ⟨q, t2, l2, rfl, ⟨_, hq⟩, k⟩⟩
theorem eq_po {C p dp : Addr} {H : Hp} {t l : Int} {y : V} {ty : Value} {Q : VK} {E : XK} (hp : H p = some (.ins C dp (fsP t l))) (h1 : TyX K H y ty) (h2 : PySem.W.kitOne K ty (.ref C) = some false) (k : Q (.bl false) H) : spPartEq K C [.ref p, y] H Q E :=
  ⟨p, t, l, y, rfl, ⟨_, hp⟩, .inr ⟨ty, h1, h2, k⟩⟩
theorem eq_same {t l : Int} : (decide (t = t) && decide (l = l)) = true := by simp
theorem and_dec_false {A B : Prop} [Decidable A] [Decidable B] (h : ¬ (A ∧ B)) : (decide A && decide B) = false := by
  rw [← Bool.decide_and]
  exact decide_eq_false h
/-! ### the law -/
def spLaw (K : PySem.W.Frag) : Sp := fun vs H Q _ => ∃ (l : Addr) (ns : List Int), vs = [.ref l] ∧ SqL K H l (ns.map V.int) ∧ ns.length ≤ 63 ∧ ∀ H', Q (.bl true) H'
theorem ok_law (T : Txt a K mg) : FnOk P w K mg base CX0 4 a.f_law a.d_law ps_law (spLaw K) := by
  refine T.F_law.ok sc_law (fun vs H Q E h => ?_) (fun cdv A outer s H vs Q E hr h => ?_)
  · obtain ⟨l, ns, rfl, _⟩ := h
    rfl
  · obtain ⟨l, ns, rfl, hs, hn, q⟩ := h
    have G_l_digits := ok_l_digits (P := P) (w := w) (base := base) T
    have B_l_digits := bnd_l_digits T
    have hr_l_digits : Room 2 _ := hr.mono (by decide)
    have G_l_frac := ok_l_frac (P := P) (w := w) (base := base) T
    have B_l_frac := bnd_l_frac T
    have hr_l_frac : Room 1 _ := hr.mono (by decide)
    have G_l_whole := ok_l_whole (P := P) (w := w) (base := base) T
    have B_l_whole := bnd_l_whole T
    have hr_l_whole : Room 1 _ := hr.mono (by decide)
    have G_l_same := ok_l_same (P := P) (w := w) (base := base) T
    have B_l_same := bnd_l_same T
    have hr_l_same : Room 1 _ := hr.mono (by decide)
    have G_Part_init := ok_Part_init (P := P) (w := w) (base := base) T
    obtain ⟨_, D_Part_init_1, B_Part_init_1⟩ := bnd_Part_init_1 T
    obtain ⟨_, D_Part_init_2, B_Part_init_2⟩ := bnd_Part_init_2 T
    have hr_Part_init : Room 1 _ := hr.mono (by decide)
    have hr1_Part_init : Room 2 _ := hr.mono (by decide)
    have G_Part_sign := ok_Part_sign (P := P) (w := w) (base := base) T
    have B_Part_sign := bnd_Part_sign T
    have hr_Part_sign : Room 1 _ := hr.mono (by decide)
    have G_Part_eq := ok_Part_eq (P := P) (w := w) (base := base) T
    have B_Part_eq := bnd_Part_eq T
    have hr_Part_eq : Room 1 _ := hr.mono (by decide)
    have hr1_Part_eq : Room 2 _ := hr.mono (by decide)
    have G_Part_repr := ok_Part_repr (P := P) (w := w) (base := base) T
    have B_Part_repr := bnd_Part_repr T
    have hr_Part_repr : Room 1 _ := hr.mono (by decide)
    have hr1_Part_repr : Room 2 _ := hr.mono (by decide)
    have G_Purse_init := ok_Purse_init (P := P) (w := w) (base := base) T
    obtain ⟨_, D_Purse_init_0, B_Purse_init_0⟩ := bnd_Purse_init_0 T
    obtain ⟨_, D_Purse_init_1, B_Purse_init_1⟩ := bnd_Purse_init_1 T
    have hr_Purse_init : Room 2 _ := hr.mono (by decide)
    have hr1_Purse_init : Room 3 _ := hr.mono (by decide)
    refine ⟨_, (pss_cons (ps_set (i := 0) sc_law.nd rfl (by first | exact Or.inl rfl | exact Or.inr rfl) (pe_slice sl_list (pv 0) po_none (po_some pe_int)))
      (pss_cons (ps_for PassesOwn.never rfl (pi_range1 rfl T.no_range (pa_cons pe_int pa_nil)) (pg_name (i := 1) sc_law.nd rfl (by first | exact Or.inl rfl | exact Or.inr rfl))
        (pss_cons (ps_asg (pe_call G_l_digits hr_l_digits (by rfl) T.mg_l_digits T.F_l_digits.kp B_l_digits .nil pass0 (pa_cons (pv 0) (pa_cons (pv 1) (pa_cons (pe_lst (pa_cons pe_int (pa_cons pe_int (pa_cons pe_int (pa_cons pe_int (pa_cons pe_int pa_nil)))))) pa_nil)))) (pg_unl rfl (pgs_cons (pg_name (i := 2) sc_law.nd rfl (by first | exact Or.inl rfl | exact Or.inr rfl)) (pgs_cons (pg_name (i := 3) sc_law.nd rfl (by first | exact Or.inl rfl | exact Or.inr rfl)) (pgs_cons (pg_name (i := 4) sc_law.nd rfl (by first | exact Or.inl rfl | exact Or.inr rfl)) (pgs_cons (pg_name (i := 5) sc_law.nd rfl (by first | exact Or.inl rfl | exact Or.inr rfl)) (pgs_cons (pg_name (i := 6) sc_law.nd rfl (by first | exact Or.inl rfl | exact Or.inr rfl)) pgs_nil))))) (by rfl)))
        (pss_cons (ps_set (i := 7) sc_law.nd rfl (by first | exact Or.inl rfl | exact Or.inr rfl) (pe_ix ix_list (pe_lst (pa_cons pe_int (pa_cons pe_int (pa_cons (pe_op op_pow pe_int pe_int) (pa_cons (pe_op op_pow pe_int pe_int) pa_nil))))) (pv 6) (fun _ _ => rfl)))
        (pss_cons (ps_set (i := 2) sc_law.nd rfl (by first | exact Or.inl rfl | exact Or.inr rfl) (pe_ix ix_list (pe_lst (pa_cons (pe_op op_mulW (pv 2) (pv 7)) (pa_cons (pe_op op_sub pe_int (pe_op op_mulW (pv 2) (pv 7))) (pa_cons (pe_op op_mod (pv 2) pe_int) (pa_cons (pe_op op_sub pe_int (pe_op op_mod (pv 2) pe_int)) pa_nil))))) (pv 5) (fun _ _ => rfl)))
        (pss_cons (ps_set (i := 3) sc_law.nd rfl (by first | exact Or.inl rfl | exact Or.inr rfl) (pe_ix ix_list (pe_lst (pa_cons (pe_op op_add pe_int (pv 3)) (pa_cons (pe_op op_sub (pe_op op_sub pe_int pe_int) (pv 3)) (pa_cons pe_int (pa_cons (pe_op op_add pe_int (pe_op op_mulW (pv 3) (pv 7))) pa_nil))))) (pe_op op_mod (pv 4) pe_int) (fun _ _ => rfl)))
        (pss_cons (ps_set (i := 8) sc_law.nd rfl (by first | exact Or.inl rfl | exact Or.inr rfl) (pe_call G_l_frac hr_l_frac (by rfl) T.mg_l_frac T.F_l_frac.kp B_l_frac .nil pass0 (pa_cons (pv 2) (pa_cons (pv 3) pa_nil))))
        (pss_cons (ps_set (i := 9) sc_law.nd rfl (by first | exact Or.inl rfl | exact Or.inr rfl) (pe_make T.mk_Part G_Part_init hr1_Part_init (by rfl) T.mg_Part B_Part_init_2 D_Part_init_2 pass0 (pa_cons (pe_op op_mulW (pv 2) (pe_op op_add pe_int (pv 4))) (pa_cons (pe_op op_mulW (pv 3) (pe_op op_add pe_int (pv 4))) pa_nil))))
        (pss_cons (ps_if (PW.pt (pw_or (pt_not (pt_val (pe_call G_l_whole hr_l_whole (by rfl) T.mg_l_whole T.F_l_whole.kp B_l_whole .nil pass0 (pa_cons (pe_fld (pv 9) rfl) pa_nil)))) (pw_or (pt_not (pt_val (pe_call G_l_whole hr_l_whole (by rfl) T.mg_l_whole T.F_l_whole.kp B_l_whole .nil pass0 (pa_cons (pe_fld (pv 9) rfl) pa_nil)))) (pw_or1 (pt_cmpR (op_neD hr.units) (pe_tup (pa_cons (pe_fld (pv 9) rfl) (pa_cons (pe_fld (pv 9) rfl) pa_nil))) (pv 8) (nomark _)))))) (pss_one (ps_ret pe_bl)) pss_nil)
        (pss_cons (ps_if (PW.pt (pw_and (pt_cmpR op_eq (pv 3) pe_int (nomark _)) (pw_and1 (pt_not (pt_cmpR (op_eq_own G_Part_eq hr_Part_eq B_Part_eq pass0 T.m_Part_eq.at_ T.m_Part_eq.fn) (pe_make T.mk_Part G_Part_init hr1_Part_init (by rfl) T.mg_Part B_Part_init_1 D_Part_init_1 pass0 (pa_cons (pv 2) pa_nil)) (pe_make T.mk_Part G_Part_init hr1_Part_init (by rfl) T.mg_Part B_Part_init_2 D_Part_init_2 pass0 (pa_cons (pv 2) (pa_cons pe_int pa_nil))) (nomark _)))))) (pss_one (ps_ret pe_bl)) pss_nil)
        (pss_cons (ps_set (i := 10) sc_law.nd rfl (by first | exact Or.inl rfl | exact Or.inr rfl) (pe_ifExp (pt_cmpR op_eq (pe_ix ix_tup (pv 8) pe_int (fun _ _ => rfl)) pe_int (nomark _)) (pe_callTy call_str_int (by rfl) T.no_str (by decide +kernel) (pa_cons (pe_ix ix_tup (pv 8) pe_int (fun _ _ => rfl)) pa_nil)) (pe_op op_add_str (pe_op op_add_str (pe_callTy call_str_int (by rfl) T.no_str (by decide +kernel) (pa_cons (pe_ix ix_tup (pv 8) pe_int (fun _ _ => rfl)) pa_nil)) pe_str) (pe_callTy call_str_int (by rfl) T.no_str (by decide +kernel) (pa_cons (pe_ix ix_tup (pv 8) pe_int (fun _ _ => rfl)) pa_nil)))))
        (pss_cons (ps_set (i := 11) sc_law.nd rfl (by first | exact Or.inl rfl | exact Or.inr rfl) (pe_ifExp (pt_cmpR op_eq (pv 2) pe_int (nomark _)) pe_int (pe_ifExp (pt_cmpR op_gt (pe_ix ix_tup (pv 8) pe_int (fun _ _ => rfl)) pe_int (nomark _)) pe_int (pe_op op_sub pe_int pe_int))))
        (pss_cons (ps_if (PW.pt (pw_or (pt_not (pt_val (pe_call G_l_same hr_l_same (by rfl) T.mg_l_same T.F_l_same.kp B_l_same .nil pass0 (pa_cons (pe_callB (call_repr_own G_Part_repr hr1_Part_repr B_Part_repr pass0 T.m_Part_repr.at_ T.m_Part_repr.fn) (by rfl) T.no_repr (by decide +kernel) (pa_cons (pv 9) pa_nil)) (pa_cons (pv 10) pa_nil))))) (pw_or1 (pt_not (pt_val (pe_call G_l_same hr_l_same (by rfl) T.mg_l_same T.F_l_same.kp B_l_same .nil pass0 (pa_cons (pe_meth0 (pv 9) T.cl_Part T.m_Part_sign G_Part_sign hr_Part_sign B_Part_sign .nil pass0) (pa_cons (pv 11) pa_nil)))))))) (pss_one (ps_ret pe_bl)) pss_nil)
        (pss_cons (ps_if (PW.pt (pw_or (pt_not (pt_cmpR (op_eq_own G_Part_eq hr_Part_eq B_Part_eq pass0 T.m_Part_eq.at_ T.m_Part_eq.fn) (pv 9) (pe_make T.mk_Part G_Part_init hr1_Part_init (by rfl) T.mg_Part B_Part_init_2 D_Part_init_2 pass0 (pa_cons (pv 2) (pa_cons (pv 3) pa_nil))) (nomark _))) (pw_or1 (pt_cmpR (op_ne_own G_Part_eq hr1_Part_eq B_Part_eq pass0 T.m_Part_eq.at_ T.m_Part_eq.fn T.ne_Part T.mro_Part) (pv 9) (pe_make T.mk_Part G_Part_init hr1_Part_init (by rfl) T.mg_Part B_Part_init_2 D_Part_init_2 pass0 (pa_cons (pe_op op_sub pe_int (pv 2)) (pa_cons (pe_op op_sub pe_int (pv 3)) pa_nil))) (nomark _))))) (pss_one (ps_ret pe_bl)) pss_nil)
        (pss_cons (ps_if (PW.pt (pw_or (pt_cmpR (op_eq_own G_Part_eq hr_Part_eq B_Part_eq pass0 T.m_Part_eq.at_ T.m_Part_eq.fn) (pv 9) (pe_make T.mk_Part G_Part_init hr1_Part_init (by rfl) T.mg_Part B_Part_init_2 D_Part_init_2 pass0 (pa_cons (pe_op op_add (pe_ix ix_tup (pv 8) pe_int (fun _ _ => rfl)) (pe_ix ix_tup (pv 8) pe_int (fun _ _ => rfl))) (pa_cons (pe_ix ix_tup (pv 8) pe_int (fun _ _ => rfl)) pa_nil))) (nomark _)) (pw_or1 (pt_cmpR (op_eq_own G_Part_eq hr_Part_eq B_Part_eq pass0 T.m_Part_eq.at_ T.m_Part_eq.fn) (pv 9) (pe_make T.mk_Part G_Part_init hr1_Part_init (by rfl) T.mg_Part B_Part_init_2 D_Part_init_2 pass0 (pa_cons (pe_op op_add (pe_op op_mulW (pe_ix ix_tup (pv 8) pe_int (fun _ _ => rfl)) pe_int) pe_int) (pa_cons (pe_op op_mulW (pe_ix ix_tup (pv 8) pe_int (fun _ _ => rfl)) pe_int) pa_nil))) (nomark _))))) (pss_one (ps_ret pe_bl)) pss_nil)
        (pss_one (ps_if (PW.pt (pw_or (pt_cmpR (op_eq_own G_Part_eq hr_Part_eq B_Part_eq pass0 T.m_Part_eq.at_ T.m_Part_eq.fn) (pv 9) (pe_ix ix_tup (pv 8) pe_int (fun _ _ => rfl)) (nomark _)) (pw_or (pt_cmpR (op_eq_own G_Part_eq hr_Part_eq B_Part_eq pass0 T.m_Part_eq.at_ T.m_Part_eq.fn) (pv 9) (pv 10) (nomark _)) (pw_or (pt_cmpR (op_eq_own G_Part_eq hr_Part_eq B_Part_eq pass0 T.m_Part_eq.at_ T.m_Part_eq.fn) (pv 9) (pe_make T.mk_Purse G_Purse_init hr1_Purse_init (by rfl) T.mg_Purse B_Purse_init_1 D_Purse_init_1 pass0 (pa_cons (pe_lst (pa_cons (pe_tup (pa_cons pe_str (pa_cons (pv 9) pa_nil))) pa_nil)) pa_nil)) (nomark _)) (pw_or1 (pt_cmpR (op_eq_own G_Part_eq hr_Part_eq B_Part_eq pass0 T.m_Part_eq.at_ T.m_Part_eq.fn) (pv 9) (pv 8) (nomark _))))))) (pss_one (ps_ret pe_bl)) pss_nil))))))))))))))))
      (pss_one (ps_ret pe_bl)))), ?_⟩
    show tSeq _ _ _ [some (V.ref l), none, none, none, none, none, none, none, none, none, none, none] H
    simp only [rSlL, tSeq, tIfS, tOp, tVar, tC, tCB, tCons, tNil, rI0, rI, tTest, tRet, tRetN, tNext, tAsg, gName, gNil, gCons, gTup, gUnl, tLst, tTup, tCall, tMeth, tMake, tUn, rU, tAndV, tOrV, tNotV, tAnd, tOr, tNot, tIf, tB, tFld, tDrop, tPar, tNever, tBM, rAppend, tSl, tPart, tNoPart, tyLst, List.getElem?_cons_zero, List.getElem?_cons_succ, Option.some.injEq, exists_eq_left', exists_eq_left, V.int.injEq, V.bl.injEq, V.str.injEq, V.ref.injEq, List.set_cons_zero, List.set_cons_succ, exists_and_left, exists_and_right, and_assoc, List.cons.injEq, and_true, true_and, List.cons_append, List.nil_append, List.append_nil, List.length_cons, List.length_nil, exists_eq', exists_eq, exists_const, exists_eq_right, exists_eq_right', cxK, Cx.nox, Cx.wish]
    refine ⟨_, hs, fun p0 hp0 => ?_⟩
    obtain ⟨ms, em, hm⟩ := cut_ints ns none (some 63)
    rw [em]
    refine for_rangeI (n := 5) (fun R r => r) (by decide) (by decide) (fun i σ H' => (∃ v1 v2 v3 v4 v5 v6 v7 v8 v9 v10 v11, σ = [some (V.ref p0), v1, v2, v3, v4, v5, v6, v7, v8, v9, v10, v11]) ∧ SqL K H' p0 (ms.map V.int))
      ⟨⟨_, _, _, _, _, _, _, _, _, _, _, rfl⟩, ofL upd_same⟩ ?_ ?_
    · rintro i σ H1 hi ⟨⟨v1, v2, v3, v4, v5, v6, v7, v8, v9, v10, v11, rfl⟩, hS⟩
      clear hp0 em hs q
      have hi : i < 5 := hi
      show tSeq _ _ _ [some (V.ref p0), some (V.int (0 + (i : Int))), v2, v3, v4, v5, v6, v7, v8, v9, v10, v11] H1
      -- top, low, by, turn, size
      refine seq_i fun N hN => ?_
      simp only [tSeq, tIfS, tOp, tVar, tC, tCB, tCons, tNil, rI0, rI, tTest, tRet, tRetN, tNext, tAsg, gName, gNil, gCons, gTup, gUnl, tLst, tTup, tCall, tMeth, tMake, tUn, rU, tAndV, tOrV, tNotV, tAnd, tOr, tNot, tIf, tB, tFld, tDrop, tPar, tNever, tBM, rAppend, tSl, tPart, tNoPart, tyLst, List.getElem?_cons_zero, List.getElem?_cons_succ, Option.some.injEq, exists_eq_left', exists_eq_left, V.int.injEq, V.bl.injEq, V.str.injEq, V.ref.injEq, List.set_cons_zero, List.set_cons_succ, exists_and_left, exists_and_right, and_assoc, List.cons.injEq, and_true, true_and, List.cons_append, List.nil_append, List.append_nil, List.length_cons, List.length_nil, exists_eq', exists_eq, exists_const, exists_eq_right, exists_eq_right', cxK, Cx.nox, Cx.wish]
      refine ⟨by decide, fun pz hpz => ?_⟩
      generalize hH2 : upd H1 pz _ = H2
      obtain ⟨e2, f2⟩ := alloc hpz hH2
      clear hH2
      refine ⟨p0, pz, ms, [9973, 997, 60, 4, 4], 0 + (i : Int), rfl, seqL hS e2, by omega, by omega, by omega, ofL f2, (by decide), (by decide), fun ds pd hd hpd => ?_⟩
      obtain ⟨top, low, by_, turn, size, rfl, ⟨t0, t1⟩, ⟨l0, l1⟩, ⟨b0, b1⟩, ⟨u0, u1⟩, ⟨s0, s1⟩⟩ := drawn5 hd
      generalize hH3 : upd H2 pd _ = H3
      obtain ⟨e3, f3⟩ := alloc hpd hH3
      clear hH3
      refine ⟨pd, rfl, _, ofL f3, rfl, ?_⟩
      simp only [List.map_cons, List.map_nil, tSeq, tIfS, tOp, tVar, tC, tCB, tCons, tNil, rI0, rI, tTest, tRet, tRetN, tNext, tAsg, gName, gNil, gCons, gTup, gUnl, tLst, tTup, tCall, tMeth, tMake, tUn, rU, tAndV, tOrV, tNotV, tAnd, tOr, tNot, tIf, tB, tFld, tDrop, tPar, tNever, tBM, rAppend, tSl, tPart, tNoPart, tyLst, List.getElem?_cons_zero, List.getElem?_cons_succ, Option.some.injEq, exists_eq_left', exists_eq_left, V.int.injEq, V.bl.injEq, V.str.injEq, V.ref.injEq, List.set_cons_zero, List.set_cons_succ, exists_and_left, exists_and_right, and_assoc, List.cons.injEq, and_true, true_and, List.cons_append, List.nil_append, List.append_nil, List.length_cons, List.length_nil, exists_eq', exists_eq, exists_const, exists_eq_right, exists_eq_right', cxK, Cx.nox, Cx.wish]
      refine hN _ _ ?_
      -- grown
      refine seq_i fun N hN => ?_
      simp only [rIxL, tSeq, tIfS, tOp, tVar, tC, tCB, tCons, tNil, rI0, rI, tTest, tRet, tRetN, tNext, tAsg, gName, gNil, gCons, gTup, gUnl, tLst, tTup, tCall, tMeth, tMake, tUn, rU, tAndV, tOrV, tNotV, tAnd, tOr, tNot, tIf, tB, tFld, tDrop, tPar, tNever, tBM, rAppend, tSl, tPart, tNoPart, tyLst, List.getElem?_cons_zero, List.getElem?_cons_succ, Option.some.injEq, exists_eq_left', exists_eq_left, V.int.injEq, V.bl.injEq, V.str.injEq, V.ref.injEq, List.set_cons_zero, List.set_cons_succ, exists_and_left, exists_and_right, and_assoc, List.cons.injEq, and_true, true_and, List.cons_append, List.nil_append, List.append_nil, List.length_cons, List.length_nil, exists_eq', exists_eq, exists_const, exists_eq_right, exists_eq_right', cxK, Cx.nox, Cx.wish]
      refine ⟨⟨by decide, by decide, by decide⟩, ⟨by decide, by decide, by decide⟩, by decide, fun pg hpg => ?_⟩
      obtain ⟨g, hg, g0, g1⟩ := pick4 (P := fun g => 0 < g ∧ g ≤ 10 ^ 16) (a := 1) (b := 7) (c := 10 ^ Int.toNat 8) (d := 10 ^ Int.toNat 16) s0 s1 (by decide) (by decide) (by decide) (by decide)
      generalize hH4 : upd H3 pg _ = H4
      obtain ⟨e4, f4⟩ := alloc hpg hH4
      clear hH4
      refine ⟨_, ofL f4, _, hg, hN _ _ ?_⟩
      clear hN N
      -- top
      refine seq_i fun N hN => ?_
      simp only [rIxL, tSeq, tIfS, tOp, tVar, tC, tCB, tCons, tNil, rI0, rI, tTest, tRet, tRetN, tNext, tAsg, gName, gNil, gCons, gTup, gUnl, tLst, tTup, tCall, tMeth, tMake, tUn, rU, tAndV, tOrV, tNotV, tAnd, tOr, tNot, tIf, tB, tFld, tDrop, tPar, tNever, tBM, rAppend, tSl, tPart, tNoPart, tyLst, List.getElem?_cons_zero, List.getElem?_cons_succ, Option.some.injEq, exists_eq_left', exists_eq_left, V.int.injEq, V.bl.injEq, V.str.injEq, V.ref.injEq, List.set_cons_zero, List.set_cons_succ, exists_and_left, exists_and_right, and_assoc, List.cons.injEq, and_true, true_and, List.cons_append, List.nil_append, List.append_nil, List.length_cons, List.length_nil, exists_eq', exists_eq, exists_const, exists_eq_right, exists_eq_right', cxK, Cx.nox, Cx.wish]
      have b1 : (top * g).natAbs < 2 ^ 80 := mul_lt 20 60 (by omega) (by omega)
      refine ⟨mulWn 20 60 (by omega) (by omega) (by decide) (by decide) (by decide), mulWn 20 60 (by omega) (by omega) (by decide) (by decide) (by decide), by decide, by decide, by decide, fun pt hpt => ?_⟩
      obtain ⟨t, ht, tb⟩ := pick4 (P := fun t => t.natAbs < 2 ^ 80) (a := top * g) (b := 0 - top * g) (c := top % 5) (d := 0 - top % 5) u0 u1 b1 (by omega) (by omega) (by omega)
      generalize hH5 : upd H4 pt _ = H5
      obtain ⟨e5, f5⟩ := alloc hpt hH5
      clear hH5
      refine ⟨_, ofL f5, _, ht, hN _ _ ?_⟩
      clear hN N
      -- low
      refine seq_i fun N hN => ?_
      simp only [rIxL, tSeq, tIfS, tOp, tVar, tC, tCB, tCons, tNil, rI0, rI, tTest, tRet, tRetN, tNext, tAsg, gName, gNil, gCons, gTup, gUnl, tLst, tTup, tCall, tMeth, tMake, tUn, rU, tAndV, tOrV, tNotV, tAnd, tOr, tNot, tIf, tB, tFld, tDrop, tPar, tNever, tBM, rAppend, tSl, tPart, tNoPart, tyLst, List.getElem?_cons_zero, List.getElem?_cons_succ, Option.some.injEq, exists_eq_left', exists_eq_left, V.int.injEq, V.bl.injEq, V.str.injEq, V.ref.injEq, List.set_cons_zero, List.set_cons_succ, exists_and_left, exists_and_right, and_assoc, List.cons.injEq, and_true, true_and, List.cons_append, List.nil_append, List.append_nil, List.length_cons, List.length_nil, exists_eq', exists_eq, exists_const, exists_eq_right, exists_eq_right', cxK, Cx.nox, Cx.wish]
      have b2 : (low * g).natAbs < 2 ^ 80 := mul_lt 20 60 (by omega) (by omega)
      have b3 : 0 ≤ low * g := Int.mul_nonneg l0 (by omega)
      refine ⟨mulWn 20 60 (by omega) (by omega) (by decide) (by decide) (by decide), by decide, fun pl hpl => ⟨by decide, ?_⟩⟩
      obtain ⟨l, hl, l2, lb⟩ := pick4 (P := fun l => l ≠ 0 ∧ l.natAbs < 2 ^ 81) (a := 1 + low) (b := 0 - 1 - low) (c := 1) (d := 1 + low * g) (k := by_ % 4) (by omega) (by omega) ⟨by omega, by omega⟩ ⟨by omega, by omega⟩ ⟨by omega, by omega⟩ ⟨by omega, by omega⟩
      generalize hH6 : upd H5 pl _ = H6
      obtain ⟨e6, f6⟩ := alloc hpl hH6
      clear hH6
      refine ⟨_, ofL f6, _, hl, hN _ _ ?_⟩
      clear hN N
      have e16 : Ext H1 H6 := e2.trans (e3.trans (e4.trans (e5.trans e6)))
      clear ht hl hg f2 f3 f4 f5 f6 hpz hpd hpg hpt hpl hd e2 e3 e4 e5 e6
      -- due
      refine seq_i fun N hN => ?_
      simp only [tSeq, tIfS, tOp, tVar, tC, tCB, tCons, tNil, rI0, rI, tTest, tRet, tRetN, tNext, tAsg, gName, gNil, gCons, gTup, gUnl, tLst, tTup, tCall, tMeth, tMake, tUn, rU, tAndV, tOrV, tNotV, tAnd, tOr, tNot, tIf, tB, tFld, tDrop, tPar, tNever, tBM, rAppend, tSl, tPart, tNoPart, tyLst, List.getElem?_cons_zero, List.getElem?_cons_succ, Option.some.injEq, exists_eq_left', exists_eq_left, V.int.injEq, V.bl.injEq, V.str.injEq, V.ref.injEq, List.set_cons_zero, List.set_cons_succ, exists_and_left, exists_and_right, and_assoc, List.cons.injEq, and_true, true_and, List.cons_append, List.nil_append, List.append_nil, List.length_cons, List.length_nil, exists_eq', exists_eq, exists_const, exists_eq_right, exists_eq_right', cxK, Cx.nox, Cx.wish]
      refine ⟨t, l, rfl, l2, Nat.lt_trans tb (by decide), Nat.lt_trans lb (by decide), fun pu hpu => ?_⟩
      generalize hTT : fracT t l = TT
      generalize hLL : fracL t l = LL
      generalize hH7 : upd H6 pu _ = H7
      obtain ⟨e7, f7⟩ := alloc hpu hH7
      clear hH7
      refine hN _ _ ?_
      clear hN N
      -- part
      refine seq_i fun N hN => ?_
      simp only [tSeq, tIfS, tOp, tVar, tC, tCB, tCons, tNil, rI0, rI, tTest, tRet, tRetN, tNext, tAsg, gName, gNil, gCons, gTup, gUnl, tLst, tTup, tCall, tMeth, tMake, tUn, rU, tAndV, tOrV, tNotV, tAnd, tOr, tNot, tIf, tB, tFld, tDrop, tPar, tNever, tBM, rAppend, tSl, tPart, tNoPart, tyLst, List.getElem?_cons_zero, List.getElem?_cons_succ, Option.some.injEq, exists_eq_left', exists_eq_left, V.int.injEq, V.bl.injEq, V.str.injEq, V.ref.injEq, List.set_cons_zero, List.set_cons_succ, exists_and_left, exists_and_right, and_assoc, List.cons.injEq, and_true, true_and, List.cons_append, List.nil_append, List.append_nil, List.length_cons, List.length_nil, exists_eq', exists_eq, exists_const, exists_eq_right, exists_eq_right', cxK, Cx.nox, Cx.wish]
      have bk : (1 + by_).natAbs < 2 ^ 10 := by omega
      have bt : (t * (1 + by_)).natAbs < 2 ^ 100 := mul_lt 90 10 (Nat.lt_trans tb (by decide)) bk
      have bl : (l * (1 + by_)).natAbs < 2 ^ 100 := mul_lt 90 10 (Nat.lt_trans lb (by decide)) bk
      have nl : l * (1 + by_) ≠ 0 := fun z => (Int.mul_eq_zero.mp z).elim l2 (by omega)
      refine ⟨mulWn 81 10 (Nat.lt_trans tb (by decide)) bk (by decide) (by decide) (by decide), mulWn 81 10 lb bk (by decide) (by decide) (by decide), fun x dx hx hdx hne => ?_⟩
      refine ⟨x, dx, _, _, rfl, upd_same, nl, Nat.lt_trans bt (by decide), Nat.lt_trans bl (by decide), rfl, ?_⟩
      rw [(frac_scale (by omega : 0 < 1 + by_) t l).1, (frac_scale (by omega : 0 < 1 + by_) t l).2, hTT, hLL]
      generalize hH8 : upd (upd (upd H7 dx _) x _) x _ = H8
      obtain ⟨e8, f8⟩ := makeP hx hdx hH8
      clear hH8
      refine hN _ _ ?_
      clear hN N
      -- the fields
      refine seq_i fun N hN => ?_
      simp only [tSeq, tIfS, tOp, tVar, tC, tCB, tCons, tNil, rI0, rI, tTest, tRet, tRetN, tNext, tAsg, gName, gNil, gCons, gTup, gUnl, tLst, tTup, tCall, tMeth, tMake, tUn, rU, tAndV, tOrV, tNotV, tAnd, tOr, tNot, tIf, tB, tFld, tDrop, tPar, tNever, tBM, rAppend, tSl, tPart, tNoPart, tyLst, List.getElem?_cons_zero, List.getElem?_cons_succ, Option.some.injEq, exists_eq_left', exists_eq_left, V.int.injEq, V.bl.injEq, V.str.injEq, V.ref.injEq, List.set_cons_zero, List.set_cons_succ, exists_and_left, exists_and_right, and_assoc, List.cons.injEq, and_true, true_and, List.cons_append, List.nil_append, List.append_nil, List.length_cons, List.length_nil, exists_eq', exists_eq, exists_const, exists_eq_right, exists_eq_right', cxK, Cx.nox, Cx.wish]
      refine ⟨_, _, _, f8, T.cl_Part, T.na_Part_top, _, fsP_top _ _, TT, rfl, true, rfl, iteF ?_⟩
      refine ⟨_, _, _, f8, T.cl_Part, T.na_Part_low, _, fsP_low _ _, LL, rfl, true, rfl, iteF ?_⟩
      refine ⟨_, _, _, f8, T.cl_Part, T.na_Part_top, _, fsP_top _ _, _, _, _, f8, T.cl_Part, T.na_Part_low, _, fsP_low _ _, ?_⟩
      refine ⟨by decide, fun pp hpp => ?_⟩
      generalize hH9 : upd H8 pp _ = H9
      obtain ⟨e9, f9⟩ := alloc hpp hH9
      clear hH9
      have fu9 := e9 _ _ (e8 _ _ f7)
      have dd : ∀ {H p}, H p = some (.tup [.int TT, .int LL]) → Dp K H (.ref p) (.tuple [.int TT, .int LL]) := fun f => .tup (ofT f) (.cons (.int _) (.cons (.int _) .nil))
      refine ⟨_, _, dd f9, dd fu9, rfl, rfl, _, rfl, ?_⟩
      rw [show PyData.eqv (.tuple [.int TT, .int LL]) (.tuple [.int TT, .int LL]) = true by simp [PyData.eqv, PyData.eqvAll]]
      refine iteF (hN _ _ ?_)
      clear hN N
      have f9x := e9 _ _ f8
      have s9 : SqL K H9 p0 (ms.map V.int) := seqL hS (e16.trans (e7.trans (e8.trans e9)))
      clear e9 e8 e7 e16 f7 f8 f9 hpp hx hdx hpu
      -- low of one
      refine seq_i fun N hN => ?_
      simp only [rEq, rEqI, tSeq, tIfS, tOp, tVar, tC, tCB, tCons, tNil, rI0, rI, tTest, tRet, tRetN, tNext, tAsg, gName, gNil, gCons, gTup, gUnl, tLst, tTup, tCall, tMeth, tMake, tUn, rU, tAndV, tOrV, tNotV, tAnd, tOr, tNot, tIf, tB, tFld, tDrop, tPar, tNever, tBM, rAppend, tSl, tPart, tNoPart, tyLst, List.getElem?_cons_zero, List.getElem?_cons_succ, Option.some.injEq, exists_eq_left', exists_eq_left, V.int.injEq, V.bl.injEq, V.str.injEq, V.ref.injEq, List.set_cons_zero, List.set_cons_succ, exists_and_left, exists_and_right, and_assoc, List.cons.injEq, and_true, true_and, List.cons_append, List.nil_append, List.append_nil, List.length_cons, List.length_nil, exists_eq', exists_eq, exists_const, exists_eq_right, exists_eq_right', cxK, Cx.nox, Cx.wish]
      suffices rest : ∀ H', Ext H9 H' → N [some (V.ref p0), some (V.int (0 + (i : Int))), some (V.int t), some (V.int l), some (V.int by_), some (V.int turn), some (V.int size), some (V.int g), some (V.ref pu), some (V.ref x), v10, v11] H' by
        refine ⟨rfl, ite2 (fun h1 => ?_) (fun _ => iteF (rest _ (Own.Ext.refl' _)))⟩
        have h1 : l = 1 := of_decide_eq_true h1
        refine fun x1 dx1 hx1 hdx1 _ => mk_part hx1 hdx1 (by decide) (Nat.lt_trans tb (by decide)) (by decide) fun H10 e10 f10 => ⟨rfl, ?_⟩
        refine fun x2 dx2 hx2 hdx2 _ => mk_part hx2 hdx2 (by decide) (Nat.lt_trans tb (by decide)) (by decide) fun H11 e11 f11 => ⟨rfl, ?_⟩
        have f10' := e11 _ _ f10
        refine ⟨⟨_, _, f10'⟩, _, ty_Part T f11, T.nf_Part_Part, eq_pp f10' f11 ⟨_, rfl, ?_⟩⟩
        rw [eq_same]
        exact iteF (rest _ (e10.trans e11))
      intro H12 e12
      have fx := e12 _ _ f9x
      have fu := e12 _ _ fu9
      have hS2 := seqL s9 e12
      refine hN _ _ ?_
      clear hN N e12 f9x fu9 s9
      have hL := fracL_pos (t := t) l2
      rw [hLL] at hL
      have hTb : TT.natAbs < 2 ^ 81 := Nat.lt_of_le_of_lt (hTT ▸ fracT_le l2) (Nat.lt_trans tb (by decide))
      have hLb : LL.natAbs < 2 ^ 81 := Nat.lt_of_le_of_lt (hLL ▸ fracL_le l2) lb
      have hTl : TT.natAbs.log2 < 1920 := log2_of (Nat.lt_trans hTb (by decide))
      have hLl : LL.natAbs.log2 < 1920 := log2_of (Nat.lt_trans hLb (by decide))
      have st := Small.int hTl
      have sl := Small.int hLl
      have s1' : Small (((toString TT : String) : Str) ++ Str.ofString "/") 1922 := st.app (m := 1) ⟨by decide +kernel, by decide +kernel⟩
      have s2' := s1'.app sl
      have hz : sizeLine = 16777216 := rfl
      have hsm : Small (showP TT LL) 3843 := by
        unfold showP
        split
        · exact st.mono (by decide)
        · exact s2'
      -- shown
      refine seq_i fun N hN => ?_
      simp only [rIxT, rEq, tSeq, tIfS, tOp, tVar, tC, tCB, tCons, tNil, rI0, rI, tTest, tRet, tRetN, tNext, tAsg, gName, gNil, gCons, gTup, gUnl, tLst, tTup, tCall, tMeth, tMake, tUn, rU, tAndV, tOrV, tNotV, tAnd, tOr, tNot, tIf, tB, tFld, tDrop, tPar, tNever, tBM, rAppend, tSl, tPart, tNoPart, tyLst, List.getElem?_cons_zero, List.getElem?_cons_succ, Option.some.injEq, exists_eq_left', exists_eq_left, V.int.injEq, V.bl.injEq, V.str.injEq, V.ref.injEq, List.set_cons_zero, List.set_cons_succ, exists_and_left, exists_and_right, and_assoc, List.cons.injEq, and_true, true_and, List.cons_append, List.nil_append, List.append_nil, List.length_cons, List.length_nil, exists_eq', exists_eq, exists_const, exists_eq_right, exists_eq_right', cxK, Cx.nox, Cx.wish]
      suffices rest : N [some (V.ref p0), some (V.int (0 + (i : Int))), some (V.int t), some (V.int l), some (V.int by_), some (V.int turn), some (V.int size), some (V.int g), some (V.ref pu), some (V.ref x), some (V.str (showP TT LL)), v11] H12 by
        refine ⟨_, ofT fu, V.int LL, atI_1, rfl, ite2 (fun h1 => ?_) (fun h1 => ?_)⟩
        · have h1 : LL = 1 := V.int.inj (of_decide_eq_true h1)
          refine ⟨_, ofT fu, V.int TT, atI_0, TT, rfl, hTl, ?_⟩
          unfold showP at rest
          rw [if_pos h1] at rest
          exact rest
        · have h1 : ¬ LL = 1 := fun z => h1 (decide_eq_true (congrArg V.int z))
          unfold showP at rest
          rw [if_neg h1] at rest
          have e1 : (Str.ofString "/").length = 1 := by decide +kernel
          exact ⟨_, ofT fu, V.int TT, atI_0, TT, rfl, hTl, by have := st.len; omega, _, ofT fu, V.int LL, atI_1, LL, rfl, hLl, by have := s1'.len; have := sl.len; omega, rest⟩
      refine hN _ _ ?_
      clear hN N
      -- sign
      refine seq_i fun N hN => ?_
      simp only [rIxT, rEq, tSeq, tIfS, tOp, tVar, tC, tCB, tCons, tNil, rI0, rI, tTest, tRet, tRetN, tNext, tAsg, gName, gNil, gCons, gTup, gUnl, tLst, tTup, tCall, tMeth, tMake, tUn, rU, tAndV, tOrV, tNotV, tAnd, tOr, tNot, tIf, tB, tFld, tDrop, tPar, tNever, tBM, rAppend, tSl, tPart, tNoPart, tyLst, List.getElem?_cons_zero, List.getElem?_cons_succ, Option.some.injEq, exists_eq_left', exists_eq_left, V.int.injEq, V.bl.injEq, V.str.injEq, V.ref.injEq, List.set_cons_zero, List.set_cons_succ, exists_and_left, exists_and_right, and_assoc, List.cons.injEq, and_true, true_and, List.cons_append, List.nil_append, List.append_nil, List.length_cons, List.length_nil, exists_eq', exists_eq, exists_const, exists_eq_right, exists_eq_right', cxK, Cx.nox, Cx.wish]
      suffices rest : N [some (V.ref p0), some (V.int (0 + (i : Int))), some (V.int t), some (V.int l), some (V.int by_), some (V.int turn), some (V.int size), some (V.int g), some (V.ref pu), some (V.ref x), some (V.str (showP TT LL)), some (V.int (sgn TT))] H12 by
        refine ⟨rfl, ite2 (fun h0 => ?_) (fun h0 => ?_)⟩
        · have h0 : TT = 0 := hTT ▸ (fracT_zero l2).mpr (of_decide_eq_true h0)
          rw [show sgn TT = 0 by unfold sgn; rw [if_pos h0]] at rest
          exact rest
        · have h0 : ¬ TT = 0 := fun z => h0 (decide_eq_true ((fracT_zero l2).mp (hTT.trans z)))
          refine ⟨_, ofT fu, V.int TT, atI_0, TT, rfl, ite2 (fun h1 => ?_) (fun h1 => ?_)⟩
          · have h1 := of_decide_eq_true h1
            rw [show sgn TT = 1 by unfold sgn; rw [if_neg h0, if_pos h1]] at rest
            exact rest
          · have h1 : ¬ 0 < TT := fun z => h1 (decide_eq_true z)
            rw [show sgn TT = 0 - 1 by unfold sgn; rw [if_neg h0, if_neg h1]; rfl] at rest
            exact rest
      refine hN _ _ ?_
      clear hN N
      -- repr and sign
      refine seq_i fun N hN => ?_
      simp only [rReprI, tSeq, tIfS, tOp, tVar, tC, tCB, tCons, tNil, rI0, rI, tTest, tRet, tRetN, tNext, tAsg, gName, gNil, gCons, gTup, gUnl, tLst, tTup, tCall, tMeth, tMake, tUn, rU, tAndV, tOrV, tNotV, tAnd, tOr, tNot, tIf, tB, tFld, tDrop, tPar, tNever, tBM, rAppend, tSl, tPart, tNoPart, tyLst, List.getElem?_cons_zero, List.getElem?_cons_succ, Option.some.injEq, exists_eq_left', exists_eq_left, V.int.injEq, V.bl.injEq, V.str.injEq, V.ref.injEq, List.set_cons_zero, List.set_cons_succ, exists_and_left, exists_and_right, and_assoc, List.cons.injEq, and_true, true_and, List.cons_append, List.nil_append, List.append_nil, List.length_cons, List.length_nil, exists_eq', exists_eq, exists_const, exists_eq_right, exists_eq_right', cxK, Cx.nox, Cx.wish]
      have hsg : (sgn TT).natAbs.log2 < 1920 := by
        refine log2_of ?_
        unfold sgn
        split
        · decide
        · split <;> decide
      refine ⟨⟨_, _, fx⟩, x, TT, LL, rfl, ⟨_, fx⟩, hTl, hLl, ⟨_, rfl⟩, V.str (showP TT LL), rfl, .inr ⟨_, _, rfl, hsm, by decide⟩, true, rfl, iteF ?_⟩
      refine ⟨_, _, fx, fsP_no _ _ (m := "sign") (by decide +kernel) (by decide +kernel), x, TT, LL, rfl, ⟨_, fx⟩, V.int (sgn TT), rfl, .inl ⟨_, rfl, hsg⟩, true, rfl, iteF (hN _ _ ?_)⟩
      clear hN N
      -- the same fraction, and its other sign
      refine seq_i fun N hN => ?_
      simp only [rEqI, tSeq, tIfS, tOp, tVar, tC, tCB, tCons, tNil, rI0, rI, tTest, tRet, tRetN, tNext, tAsg, gName, gNil, gCons, gTup, gUnl, tLst, tTup, tCall, tMeth, tMake, tUn, rU, tAndV, tOrV, tNotV, tAnd, tOr, tNot, tIf, tB, tFld, tDrop, tPar, tNever, tBM, rAppend, tSl, tPart, tNoPart, tyLst, List.getElem?_cons_zero, List.getElem?_cons_succ, Option.some.injEq, exists_eq_left', exists_eq_left, V.int.injEq, V.bl.injEq, V.str.injEq, V.ref.injEq, List.set_cons_zero, List.set_cons_succ, exists_and_left, exists_and_right, and_assoc, List.cons.injEq, and_true, true_and, List.cons_append, List.nil_append, List.append_nil, List.length_cons, List.length_nil, exists_eq', exists_eq, exists_const, exists_eq_right, exists_eq_right', cxK, Cx.nox, Cx.wish]
      have tb' : t.natAbs < 2 ^ 4000 := Nat.lt_trans tb (by decide)
      have lb' : l.natAbs < 2 ^ 4000 := Nat.lt_trans lb (by decide)
      refine fun x1 dx1 hx1 hdx1 _ => mk_part hx1 hdx1 l2 tb' lb' fun H13 e13 f13 => ⟨rfl, ⟨_, _, e13 _ _ fx⟩, _, ty_Part T f13, T.nf_Part_Part, eq_pp (e13 _ _ fx) f13 ⟨_, rfl, ?_⟩⟩
      rw [hTT, hLL, eq_same]
      refine iteF ?_
      refine fun x2 dx2 hx2 hdx2 _ => mk_part hx2 hdx2 (by omega) (by omega) (by omega) fun H14 e14 f14 => ⟨rfl, ⟨_, _, e14 _ _ (e13 _ _ fx)⟩, _, ty_Part T f14, T.nf_Part_Part, eq_pp (e14 _ _ (e13 _ _ fx)) f14 ⟨_, rfl, ?_⟩⟩
      rw [Int.zero_sub, Int.zero_sub, (frac_neg_neg l2).1, (frac_neg_neg l2).2, hTT, hLL, eq_same]
      refine iteF (hN _ _ ?_)
      clear hN N
      have gx := e14 _ _ (e13 _ _ fx)
      have gu := e14 _ _ (e13 _ _ fu)
      have hS3 := seqL (seqL hS2 e13) e14
      clear e13 e14 f13 f14 hx1 hdx1 hx2 hdx2 fx fu hS2
      -- other fractions
      refine seq_i fun N hN => ?_
      simp only [rEqI, rIxT, tSeq, tIfS, tOp, tVar, tC, tCB, tCons, tNil, rI0, rI, tTest, tRet, tRetN, tNext, tAsg, gName, gNil, gCons, gTup, gUnl, tLst, tTup, tCall, tMeth, tMake, tUn, rU, tAndV, tOrV, tNotV, tAnd, tOr, tNot, tIf, tB, tFld, tDrop, tPar, tNever, tBM, rAppend, tSl, tPart, tNoPart, tyLst, List.getElem?_cons_zero, List.getElem?_cons_succ, Option.some.injEq, exists_eq_left', exists_eq_left, V.int.injEq, V.bl.injEq, V.str.injEq, V.ref.injEq, List.set_cons_zero, List.set_cons_succ, exists_and_left, exists_and_right, and_assoc, List.cons.injEq, and_true, true_and, List.cons_append, List.nil_append, List.append_nil, List.length_cons, List.length_nil, exists_eq', exists_eq, exists_const, exists_eq_right, exists_eq_right', cxK, Cx.nox, Cx.wish]
      have hTL : (TT + LL).natAbs < 2 ^ 4000 := Nat.lt_trans (show (TT + LL).natAbs < 2 ^ 82 by omega) (by decide)
      have hTL2 : (TT * 2 + 1).natAbs < 2 ^ 4000 := Nat.lt_trans (show (TT * 2 + 1).natAbs < 2 ^ 83 by omega) (by decide)
      have hLL2 : (LL * 2).natAbs < 2 ^ 4000 := Nat.lt_trans (show (LL * 2).natAbs < 2 ^ 82 by omega) (by decide)
      refine ⟨_, ofT gu, V.int TT, atI_0, _, ofT gu, V.int LL, atI_1, TT, rfl, LL, rfl, _, ofT gu, V.int LL, atI_1, ?_⟩
      refine fun x1 dx1 hx1 hdx1 _ => mk_part hx1 hdx1 (by omega) hTL (Nat.lt_trans hLb (by decide)) fun H13 e13 f13 => ⟨rfl, ⟨_, _, e13 _ _ gx⟩, _, ty_Part T f13, T.nf_Part_Part, eq_pp (e13 _ _ gx) f13 ⟨_, rfl, ?_⟩⟩
      rw [and_dec_false (frac_other1 hL)]
      refine iteF ?_
      refine ⟨_, ofT (e13 _ _ gu), V.int TT, atI_0, TT, rfl, mulWn 81 10 hTb (by decide) (by decide) (by decide) (by decide), _, ofT (e13 _ _ gu), V.int LL, atI_1, LL, rfl, mulWn 81 10 hLb (by decide) (by decide) (by decide) (by decide), ?_⟩
      refine fun x2 dx2 hx2 hdx2 _ => mk_part hx2 hdx2 (by omega) hTL2 hLL2 fun H15 e14 f14 => ⟨rfl, ⟨_, _, e14 _ _ (e13 _ _ gx)⟩, _, ty_Part T f14, T.nf_Part_Part, eq_pp (e14 _ _ (e13 _ _ gx)) f14 ⟨_, rfl, ?_⟩⟩
      rw [and_dec_false (frac_other2 hL)]
      refine iteF (hN _ _ ?_)
      clear hN N
      have kx := e14 _ _ (e13 _ _ gx)
      have ku := e14 _ _ (e13 _ _ gu)
      have hS4 := seqL (seqL hS3 e13) e14
      clear e13 e14 f13 f14 hx1 hdx1 hx2 hdx2 gx gu hS3
      -- nothing else
      simp only [rEqI, rIxT, tSeq, tIfS, tOp, tVar, tC, tCB, tCons, tNil, rI0, rI, tTest, tRet, tRetN, tNext, tAsg, gName, gNil, gCons, gTup, gUnl, tLst, tTup, tCall, tMeth, tMake, tUn, rU, tAndV, tOrV, tNotV, tAnd, tOr, tNot, tIf, tB, tFld, tDrop, tPar, tNever, tBM, rAppend, tSl, tPart, tNoPart, tyLst, List.getElem?_cons_zero, List.getElem?_cons_succ, Option.some.injEq, exists_eq_left', exists_eq_left, V.int.injEq, V.bl.injEq, V.str.injEq, V.ref.injEq, List.set_cons_zero, List.set_cons_succ, exists_and_left, exists_and_right, and_assoc, List.cons.injEq, and_true, true_and, List.cons_append, List.nil_append, List.append_nil, List.length_cons, List.length_nil, exists_eq', exists_eq, exists_const, exists_eq_right, exists_eq_right', cxK, Cx.nox, Cx.wish]
      refine ⟨_, ofT ku, V.int TT, atI_0, ⟨_, _, kx⟩, _, .base (.int TT), T.nf_int_Part, eq_po kx (.base (.int TT)) T.kit_int_Part ⟨false, rfl, iteF ?_⟩⟩
      refine ⟨⟨_, _, kx⟩, _, .base (.str _), T.nf_str_Part, eq_po kx (.base (.str _)) T.kit_str_Part ⟨false, rfl, iteF ?_⟩⟩
      refine ⟨by decide, fun pa hpa => ⟨by decide, fun pb hpb => ?_⟩⟩
      generalize hH16 : upd H15 pa _ = H16 at hpb ⊢
      obtain ⟨e16, f16⟩ := alloc hpa hH16
      generalize hH17 : upd H16 pb _ = H17
      obtain ⟨e17, f17⟩ := alloc hpb hH17
      intro x1 dx1 hx1 hdx1 hne
      have eU : Ext H17 (upd (upd H17 dx1 (.own x1)) x1 (.ins a.C_Purse dx1 [])) := upd_ext (Ext.upd hdx1) hx1
      refine ⟨x1, dx1, pb, pa, x, Str.ofString "x", TT, LL, rfl, upd_same, eU _ _ f17, eU _ _ (e17 _ _ f16), ⟨_, eU _ _ (e17 _ _ (e16 _ _ kx))⟩, fun H' fs hk hp => ⟨rfl, ?_⟩⟩
      have eZ : Ext H15 H' := fun b o hb => hk b o (eU _ _ (e17 _ _ (e16 _ _ hb))) (ne_of_none (e17 _ _ (e16 _ _ hb)) hx1)
      refine ⟨⟨_, _, eZ _ _ kx⟩, _, ty_Purse T hp, T.nf_Purse_Part, eq_po (eZ _ _ kx) (ty_Purse T hp) T.kit_Purse_Part ⟨false, rfl, iteF ?_⟩⟩
      refine ⟨⟨_, _, eZ _ _ kx⟩, _, .base (.tup (eZ _ _ ku)), T.nf_tuple_Part, eq_po (eZ _ _ kx) (.base (.tup (eZ _ _ ku))) T.kit_tuple_Part ⟨false, rfl, iteF ?_⟩⟩
      exact seqL hS4 eZ
    · rintro σ H1 ⟨⟨v1, v2, v3, v4, v5, v6, v7, v8, v9, v10, v11, rfl⟩, hS⟩
      simp only [tSeq, tIfS, tOp, tVar, tC, tCB, tCons, tNil, rI0, rI, tTest, tRet, tRetN, tNext, tAsg, gName, gNil, gCons, gTup, gUnl, tLst, tTup, tCall, tMeth, tMake, tUn, rU, tAndV, tOrV, tNotV, tAnd, tOr, tNot, tIf, tB, tFld, tDrop, tPar, tNever, tBM, rAppend, tSl, tPart, tNoPart, tyLst, List.getElem?_cons_zero, List.getElem?_cons_succ, Option.some.injEq, exists_eq_left', exists_eq_left, V.int.injEq, V.bl.injEq, V.str.injEq, V.ref.injEq, List.set_cons_zero, List.set_cons_succ, exists_and_left, exists_and_right, and_assoc, List.cons.injEq, and_true, true_and, List.cons_append, List.nil_append, List.append_nil, List.length_cons, List.length_nil, exists_eq', exists_eq, exists_const, exists_eq_right, exists_eq_right', cxK, Cx.nox, Cx.wish]
      exact q _
end
theorem all_mk {P : Program} {w : World} {K : PySem.W.Frag} {h : Heap} {mg : Str → Option Value} {fa C_Part C_Purse f_Part_init f_Part_sign f_Part_eq f_Part_repr f_Purse_init f_l_cell f_l_digits f_l_frac f_l_whole f_l_same f_law t_rows T_Part_init T_Purse_init : Addr} (X : K.In h) (G : h.Ns mainGlobals mg) (hfa : mg "law" = some (.ref fa))
    {od_Part_init an_Part_init od_Part_sign an_Part_sign od_Part_eq an_Part_eq od_Part_repr an_Part_repr od_Purse_init an_Purse_init od_l_cell an_l_cell od_l_digits an_l_digits od_l_frac an_l_frac od_l_whole an_l_whole od_l_same an_l_same od_law an_law : Option Addr}
    {sl_Part_init sl_Part_sign sl_Part_eq sl_Part_repr sl_Purse_init sl_l_cell sl_l_digits sl_l_frac sl_l_whole sl_l_same sl_law : Array (Option Value)}
    {oc_Part_init kV_Part_init dc_Part_init pm_Part_init cd_Part_init ct_Part_init oc_Part_sign kV_Part_sign dc_Part_sign pm_Part_sign cd_Part_sign ct_Part_sign oc_Part_eq kV_Part_eq dc_Part_eq pm_Part_eq cd_Part_eq ct_Part_eq oc_Part_repr kV_Part_repr dc_Part_repr pm_Part_repr cd_Part_repr ct_Part_repr oc_Purse_init kV_Purse_init dc_Purse_init pm_Purse_init cd_Purse_init ct_Purse_init oc_l_cell kV_l_cell dc_l_cell pm_l_cell cd_l_cell ct_l_cell oc_l_digits kV_l_digits dc_l_digits pm_l_digits cd_l_digits ct_l_digits oc_l_frac kV_l_frac dc_l_frac pm_l_frac cd_l_frac ct_l_frac oc_l_whole kV_l_whole dc_l_whole pm_l_whole cd_l_whole ct_l_whole oc_l_same kV_l_same dc_l_same pm_l_same cd_l_same ct_l_same oc_law kV_law dc_law pm_law cd_law ct_law : Value}
    {tc_Part_init : Value} {td_Part_init : Option Addr} {its_Part_init : List Value} {tn_Part_init : Nat} {ts_Part_init : Array (Option Value)}
    {tc_Purse_init : Value} {td_Purse_init : Option Addr} {its_Purse_init : List Value} {tn_Purse_init : Nat} {ts_Purse_init : Array (Option Value)}
    (g_l_cell : PySem.W.nsIn K mainGlobals "_law_cell" = some (some (.ref f_l_cell)))
    (g_l_digits : PySem.W.nsIn K mainGlobals "_law_digits" = some (some (.ref f_l_digits)))
    (g_l_frac : PySem.W.nsIn K mainGlobals "_law_frac" = some (some (.ref f_l_frac)))
    (g_l_whole : PySem.W.nsIn K mainGlobals "_law_whole" = some (some (.ref f_l_whole)))
    (g_l_same : PySem.W.nsIn K mainGlobals "_law_same" = some (some (.ref f_l_same)))
    (g_law : PySem.W.nsIn K mainGlobals "law" = some (some (.ref f_law)))
    (g_Part : PySem.W.nsIn K mainGlobals "Part" = some (some (.ref C_Part)))
    (in_Part : PySem.W.findIn K (.ref C_Part) "__init__" = some (some (.ref f_Part_init)))
    (ma_Part_sign : PySem.W.findIn K (.ref C_Part) "sign" = some (some (.ref f_Part_sign)))
    (ma_Part_eq : PySem.W.findIn K (.ref C_Part) "__eq__" = some (some (.ref f_Part_eq)))
    (ma_Part_repr : PySem.W.findIn K (.ref C_Part) "__repr__" = some (some (.ref f_Part_repr)))
    (g_Purse : PySem.W.nsIn K mainGlobals "Purse" = some (some (.ref C_Purse)))
    (in_Purse : PySem.W.findIn K (.ref C_Purse) "__init__" = some (some (.ref f_Purse_init)))
    (l_Part_init : K.lookup f_Part_init = some ⟨oc_Part_init, od_Part_init, .func (PySem.W.fnOf "__init__" "Part.__init__" (defArgs s_Part_init) (defBody s_Part_init) (defScope s_Part_init) (.ref T_Part_init) kV_Part_init dc_Part_init pm_Part_init an_Part_init cd_Part_init ct_Part_init), sl_Part_init⟩)
    (c_Part_init : PySem.W.codeIn K cd_Part_init "Part.__init__" = true)
    (k_Part_init : PySem.W.keepIn K (.ref f_Part_init) = true)
    (lT_Part_init : K.lookup T_Part_init = some ⟨tc_Part_init, td_Part_init, .seq its_Part_init.toArray tn_Part_init, ts_Part_init⟩)
    (vT_Part_init : Vals [V.int 1] its_Part_init)
    (l_Part_sign : K.lookup f_Part_sign = some ⟨oc_Part_sign, od_Part_sign, .func (PySem.W.fnOf "sign" "Part.sign" (defArgs s_Part_sign) (defBody s_Part_sign) (defScope s_Part_sign) .none kV_Part_sign dc_Part_sign pm_Part_sign an_Part_sign cd_Part_sign ct_Part_sign), sl_Part_sign⟩)
    (c_Part_sign : PySem.W.codeIn K cd_Part_sign "Part.sign" = true)
    (k_Part_sign : PySem.W.keepIn K (.ref f_Part_sign) = true)
    (l_Part_eq : K.lookup f_Part_eq = some ⟨oc_Part_eq, od_Part_eq, .func (PySem.W.fnOf "__eq__" "Part.__eq__" (defArgs s_Part_eq) (defBody s_Part_eq) (defScope s_Part_eq) .none kV_Part_eq dc_Part_eq pm_Part_eq an_Part_eq cd_Part_eq ct_Part_eq), sl_Part_eq⟩)
    (c_Part_eq : PySem.W.codeIn K cd_Part_eq "Part.__eq__" = true)
    (k_Part_eq : PySem.W.keepIn K (.ref f_Part_eq) = true)
    (l_Part_repr : K.lookup f_Part_repr = some ⟨oc_Part_repr, od_Part_repr, .func (PySem.W.fnOf "__repr__" "Part.__repr__" (defArgs s_Part_repr) (defBody s_Part_repr) (defScope s_Part_repr) .none kV_Part_repr dc_Part_repr pm_Part_repr an_Part_repr cd_Part_repr ct_Part_repr), sl_Part_repr⟩)
    (c_Part_repr : PySem.W.codeIn K cd_Part_repr "Part.__repr__" = true)
    (k_Part_repr : PySem.W.keepIn K (.ref f_Part_repr) = true)
    (l_Purse_init : K.lookup f_Purse_init = some ⟨oc_Purse_init, od_Purse_init, .func (PySem.W.fnOf "__init__" "Purse.__init__" (defArgs s_Purse_init) (defBody s_Purse_init) (defScope s_Purse_init) (.ref T_Purse_init) kV_Purse_init dc_Purse_init pm_Purse_init an_Purse_init cd_Purse_init ct_Purse_init), sl_Purse_init⟩)
    (c_Purse_init : PySem.W.codeIn K cd_Purse_init "Purse.__init__" = true)
    (k_Purse_init : PySem.W.keepIn K (.ref f_Purse_init) = true)
    (lT_Purse_init : K.lookup T_Purse_init = some ⟨tc_Purse_init, td_Purse_init, .seq its_Purse_init.toArray tn_Purse_init, ts_Purse_init⟩)
    (vT_Purse_init : Vals [V.ref t_rows] its_Purse_init)
    (l_l_cell : K.lookup f_l_cell = some ⟨oc_l_cell, od_l_cell, .func (PySem.W.fnOf "_law_cell" "_law_cell" (defArgs s_l_cell) (defBody s_l_cell) (defScope s_l_cell) .none kV_l_cell dc_l_cell pm_l_cell an_l_cell cd_l_cell ct_l_cell), sl_l_cell⟩)
    (c_l_cell : PySem.W.codeIn K cd_l_cell "_law_cell" = true)
    (k_l_cell : PySem.W.keepIn K (.ref f_l_cell) = true)
    (l_l_digits : K.lookup f_l_digits = some ⟨oc_l_digits, od_l_digits, .func (PySem.W.fnOf "_law_digits" "_law_digits" (defArgs s_l_digits) (defBody s_l_digits) (defScope s_l_digits) .none kV_l_digits dc_l_digits pm_l_digits an_l_digits cd_l_digits ct_l_digits), sl_l_digits⟩)
    (c_l_digits : PySem.W.codeIn K cd_l_digits "_law_digits" = true)
    (k_l_digits : PySem.W.keepIn K (.ref f_l_digits) = true)
    (l_l_frac : K.lookup f_l_frac = some ⟨oc_l_frac, od_l_frac, .func (PySem.W.fnOf "_law_frac" "_law_frac" (defArgs s_l_frac) (defBody s_l_frac) (defScope s_l_frac) .none kV_l_frac dc_l_frac pm_l_frac an_l_frac cd_l_frac ct_l_frac), sl_l_frac⟩)
    (c_l_frac : PySem.W.codeIn K cd_l_frac "_law_frac" = true)
    (k_l_frac : PySem.W.keepIn K (.ref f_l_frac) = true)
    (l_l_whole : K.lookup f_l_whole = some ⟨oc_l_whole, od_l_whole, .func (PySem.W.fnOf "_law_whole" "_law_whole" (defArgs s_l_whole) (defBody s_l_whole) (defScope s_l_whole) .none kV_l_whole dc_l_whole pm_l_whole an_l_whole cd_l_whole ct_l_whole), sl_l_whole⟩)
    (c_l_whole : PySem.W.codeIn K cd_l_whole "_law_whole" = true)
    (k_l_whole : PySem.W.keepIn K (.ref f_l_whole) = true)
    (l_l_same : K.lookup f_l_same = some ⟨oc_l_same, od_l_same, .func (PySem.W.fnOf "_law_same" "_law_same" (defArgs s_l_same) (defBody s_l_same) (defScope s_l_same) .none kV_l_same dc_l_same pm_l_same an_l_same cd_l_same ct_l_same), sl_l_same⟩)
    (c_l_same : PySem.W.codeIn K cd_l_same "_law_same" = true)
    (k_l_same : PySem.W.keepIn K (.ref f_l_same) = true)
    (l_law : K.lookup f_law = some ⟨oc_law, od_law, .func (PySem.W.fnOf "law" "law" (defArgs s_law) (defBody s_law) (defScope s_law) .none kV_law dc_law pm_law an_law cd_law ct_law), sl_law⟩)
    (c_law : PySem.W.codeIn K cd_law "law" = true)
    (k_law : PySem.W.keepIn K (.ref f_law) = true)
    (h_kp_Part : PySem.W.keepIn K (.ref C_Part) = true)
    (pg_Part : PySem.W.plainGet K C_Part Str.empty = true)
    (hd_Part : PySem.W.hasDictIn K C_Part = true)
    (po_Part : PySem.W.plainOver K C_Part = true)
    (sa_Part : PySem.W.findIn K (.ref C_Part) "__setattr__" = some (some (.builtin "object.__setattr__")))
    (mk_Part : PySem.W.makesIn K C_Part = true)
    (if_Part : PySem.W.isFn K (.ref f_Part_init) = true)
    (mf_Part_sign : PySem.W.isFn K (.ref f_Part_sign) = true)
    (mf_Part_eq : PySem.W.isFn K (.ref f_Part_eq) = true)
    (mf_Part_repr : PySem.W.isFn K (.ref f_Part_repr) = true)
    (h_na_Part_top : PySem.W.findIn K (.ref C_Part) "top" = some none)
    (h_na_Part_low : PySem.W.findIn K (.ref C_Part) "low" = some none)
    (h_mro_Part : PySem.W.mroIn K C_Part (.type "object") = some true)
    (h_cc_Part : PySem.W.findIn K (.ref C_Part) "__class__" = some (some (.builtin "object.__class__")))
    (h_ne_Part : PySem.W.findIn K (.ref C_Part) "__ne__" = some (some (.builtin "object.__ne__")))
    (ki_Part : PySem.W.isClsIn K C_Part = true)
    (kt_Part : PySem.W.typeIn K (.ref C_Part) = some (.type "type"))
    (ks_Purse_Part : PySem.W.subIn K (.ref C_Purse) (.ref C_Part) = some false)
    (kn_Purse_Part : ¬ C_Purse = C_Part)
    (ks_int_Part : PySem.W.subIn K (.type "int") (.ref C_Part) = some false)
    (ks_str_Part : PySem.W.subIn K (.type "str") (.ref C_Part) = some false)
    (ks_tuple_Part : PySem.W.subIn K (.type "tuple") (.ref C_Part) = some false)
    (h_nf_Part_Part : PySem.W.notFirst K C_Part (.ref C_Part) = true)
    (h_nf_Purse_Part : PySem.W.notFirst K C_Part (.ref C_Purse) = true)
    (h_nf_int_Part : PySem.W.notFirst K C_Part (.type "int") = true)
    (h_nf_str_Part : PySem.W.notFirst K C_Part (.type "str") = true)
    (h_nf_tuple_Part : PySem.W.notFirst K C_Part (.type "tuple") = true)
    (h_kp_Purse : PySem.W.keepIn K (.ref C_Purse) = true)
    (pg_Purse : PySem.W.plainGet K C_Purse Str.empty = true)
    (hd_Purse : PySem.W.hasDictIn K C_Purse = true)
    (po_Purse : PySem.W.plainOver K C_Purse = true)
    (sa_Purse : PySem.W.findIn K (.ref C_Purse) "__setattr__" = some (some (.builtin "object.__setattr__")))
    (mk_Purse : PySem.W.makesIn K C_Purse = true)
    (if_Purse : PySem.W.isFn K (.ref f_Purse_init) = true)
    (h_na_Purse__held : PySem.W.findIn K (.ref C_Purse) "_held" = some none)
    (h_mro_Purse : PySem.W.mroIn K C_Purse (.type "object") = some true)
    (h_cc_Purse : PySem.W.findIn K (.ref C_Purse) "__class__" = some (some (.builtin "object.__class__")))
    (h_cget : PySem.W.specialIn K (.builtin "object.__class__") "__get__" = some (some (.builtin "getset_descriptor.__get__")))
    (h_ctk : PySem.W.takesIn K (.builtin "object.__class__") = some true)
    (z_len : PySem.W.nsIn K mainGlobals "len" = some none)
    (z_range : PySem.W.nsIn K mainGlobals "range" = some none)
    (z_abs : PySem.W.nsIn K mainGlobals "abs" = some none)
    (z_isinstance : PySem.W.nsIn K mainGlobals "isinstance" = some none)
    (z_str : PySem.W.nsIn K mainGlobals "str" = some none)
    (z_repr : PySem.W.nsIn K mainGlobals "repr" = some none)
    (z_int : PySem.W.nsIn K mainGlobals "int" = some none)
    (z_bool : PySem.W.nsIn K mainGlobals "bool" = some none)
    (z_dict : PySem.W.nsIn K mainGlobals "dict" = some none)
    (z_sorted : PySem.W.nsIn K mainGlobals "sorted" = some none)
    (b_gcd : PySem.W.nsIn K mainGlobals "gcd" = some (some (.builtin "math.gcd")))
    : ∃ fd : FuncData, (∀ (s : Shared) (v : Value), BindsTo s fd ⟨[v], []⟩ [("_law_script", v)]) ∧ ∀ base : Heap, K.In base → base.Ns mainGlobals mg → FnOk P w K mg base CX0 4 fa fd ["_law_script"] (spLaw K) := by
  have e := (PySem.W.mg_of X G g_law).symm.trans hfa
  cases e
  have T : Txt ⟨C_Part, C_Purse, f_Part_init, (PySem.W.fnOf "__init__" "Part.__init__" (defArgs s_Part_init) (defBody s_Part_init) (defScope s_Part_init) (.ref T_Part_init) kV_Part_init dc_Part_init pm_Part_init an_Part_init cd_Part_init ct_Part_init), f_Part_sign, (PySem.W.fnOf "sign" "Part.sign" (defArgs s_Part_sign) (defBody s_Part_sign) (defScope s_Part_sign) .none kV_Part_sign dc_Part_sign pm_Part_sign an_Part_sign cd_Part_sign ct_Part_sign), f_Part_eq, (PySem.W.fnOf "__eq__" "Part.__eq__" (defArgs s_Part_eq) (defBody s_Part_eq) (defScope s_Part_eq) .none kV_Part_eq dc_Part_eq pm_Part_eq an_Part_eq cd_Part_eq ct_Part_eq), f_Part_repr, (PySem.W.fnOf "__repr__" "Part.__repr__" (defArgs s_Part_repr) (defBody s_Part_repr) (defScope s_Part_repr) .none kV_Part_repr dc_Part_repr pm_Part_repr an_Part_repr cd_Part_repr ct_Part_repr), f_Purse_init, (PySem.W.fnOf "__init__" "Purse.__init__" (defArgs s_Purse_init) (defBody s_Purse_init) (defScope s_Purse_init) (.ref T_Purse_init) kV_Purse_init dc_Purse_init pm_Purse_init an_Purse_init cd_Purse_init ct_Purse_init), f_l_cell, (PySem.W.fnOf "_law_cell" "_law_cell" (defArgs s_l_cell) (defBody s_l_cell) (defScope s_l_cell) .none kV_l_cell dc_l_cell pm_l_cell an_l_cell cd_l_cell ct_l_cell), f_l_digits, (PySem.W.fnOf "_law_digits" "_law_digits" (defArgs s_l_digits) (defBody s_l_digits) (defScope s_l_digits) .none kV_l_digits dc_l_digits pm_l_digits an_l_digits cd_l_digits ct_l_digits), f_l_frac, (PySem.W.fnOf "_law_frac" "_law_frac" (defArgs s_l_frac) (defBody s_l_frac) (defScope s_l_frac) .none kV_l_frac dc_l_frac pm_l_frac an_l_frac cd_l_frac ct_l_frac), f_l_whole, (PySem.W.fnOf "_law_whole" "_law_whole" (defArgs s_l_whole) (defBody s_l_whole) (defScope s_l_whole) .none kV_l_whole dc_l_whole pm_l_whole an_l_whole cd_l_whole ct_l_whole), f_l_same, (PySem.W.fnOf "_law_same" "_law_same" (defArgs s_l_same) (defBody s_l_same) (defScope s_l_same) .none kV_l_same dc_l_same pm_l_same an_l_same cd_l_same ct_l_same), fa, (PySem.W.fnOf "law" "law" (defArgs s_law) (defBody s_law) (defScope s_law) .none kV_law dc_law pm_law an_law cd_law ct_law), t_rows⟩ K mg := ⟨⟨⟨oc_Part_init, od_Part_init, .ref T_Part_init, kV_Part_init, dc_Part_init, pm_Part_init, an_Part_init, cd_Part_init, ct_Part_init, sl_Part_init, rfl, l_Part_init, c_Part_init, .inr ⟨List.cons_ne_nil _ _, T_Part_init, _, its_Part_init, tn_Part_init, rfl, lT_Part_init, rfl, vT_Part_init⟩, .inl rfl⟩, k_Part_init⟩, fun_mk (st := s_Part_sign) l_Part_sign c_Part_sign k_Part_sign, fun_mk (st := s_Part_eq) l_Part_eq c_Part_eq k_Part_eq, fun_mk (st := s_Part_repr) l_Part_repr c_Part_repr k_Part_repr, ⟨⟨oc_Purse_init, od_Purse_init, .ref T_Purse_init, kV_Purse_init, dc_Purse_init, pm_Purse_init, an_Purse_init, cd_Purse_init, ct_Purse_init, sl_Purse_init, rfl, l_Purse_init, c_Purse_init, .inr ⟨List.cons_ne_nil _ _, T_Purse_init, _, its_Purse_init, tn_Purse_init, rfl, lT_Purse_init, rfl, vT_Purse_init⟩, .inl rfl⟩, k_Purse_init⟩, fun_mk (st := s_l_cell) l_l_cell c_l_cell k_l_cell, PySem.W.mg_of X G g_l_cell, fun_mk (st := s_l_digits) l_l_digits c_l_digits k_l_digits, PySem.W.mg_of X G g_l_digits, fun_mk (st := s_l_frac) l_l_frac c_l_frac k_l_frac, PySem.W.mg_of X G g_l_frac, fun_mk (st := s_l_whole) l_l_whole c_l_whole k_l_whole, PySem.W.mg_of X G g_l_whole, fun_mk (st := s_l_same) l_l_same c_l_same k_l_same, PySem.W.mg_of X G g_l_same, fun_mk (st := s_law) l_law c_law k_law, PySem.W.mg_of X G g_law, PySem.W.mg_of X G g_Part, h_kp_Part, ⟨pg_Part, hd_Part, po_Part, sa_Part⟩, ⟨mk_Part, in_Part, if_Part, h_kp_Part⟩, ⟨ma_Part_sign, mf_Part_sign, k_Part_sign⟩, ⟨ma_Part_eq, mf_Part_eq, k_Part_eq⟩, ⟨ma_Part_repr, mf_Part_repr, k_Part_repr⟩, h_na_Part_top, h_na_Part_low, h_mro_Part, h_cc_Part, h_ne_Part, Own.kit_self, Own.kit_own ki_Part kt_Part ks_Purse_Part kn_Purse_Part, Own.kit_ty ki_Part kt_Part ks_int_Part, Own.kit_ty ki_Part kt_Part ks_str_Part, Own.kit_ty ki_Part kt_Part ks_tuple_Part, h_nf_Part_Part, h_nf_Purse_Part, h_nf_int_Part, h_nf_str_Part, h_nf_tuple_Part, PySem.W.mg_of X G g_Purse, h_kp_Purse, ⟨pg_Purse, hd_Purse, po_Purse, sa_Purse⟩, ⟨mk_Purse, in_Purse, if_Purse, h_kp_Purse⟩, h_na_Purse__held, h_mro_Purse, h_cc_Purse, h_cget, h_ctk, PySem.W.mg_none_of X G z_len, PySem.W.mg_none_of X G z_range, PySem.W.mg_none_of X G z_abs, PySem.W.mg_none_of X G z_isinstance, PySem.W.mg_none_of X G z_str, PySem.W.mg_none_of X G z_repr, PySem.W.mg_none_of X G z_int, PySem.W.mg_none_of X G z_bool, PySem.W.mg_none_of X G z_dict, PySem.W.mg_none_of X G z_sorted, PySem.W.mg_of X G b_gcd⟩
  exact ⟨_, fun s v => .of_eq rfl, fun base _ _ => ok_law T⟩
theorem walk {l : PySem.W.OpenLaw} {q : Program} {loose : List Str} {XP : (Str → Option Value) → Heap → Prop} {YP : World → Heap → Prop} {d : DefRec} {K : Params → PySem.W.Frag} (hn : l.most = some 63) (hdf : d.params.defaults = [])
    (hY : ∀ (w : World) (h : Heap), YP w h → (K w.params).In h)
    (F : ∀ (w : World) (mg : Str → Option Value) (fa : Addr) (h : Heap), (K w.params).In h → h.Ns mainGlobals mg → mg d.name = some (.ref fa) →
      ∃ fd : FuncData, (∀ (s : Shared) (u : Value), BindsTo s fd ⟨[u], []⟩ [("_law_script", u)]) ∧ ∀ base : Heap, (K w.params).In base → base.Ns mainGlobals mg → FnOk l.prog w (K w.params) mg base CX0 4 fa fd ["_law_script"] (spLaw (K w.params))) :
    PySem.W.WalkO q loose XP YP l.row.toRowW d [] (fun f vs => PySem.call f vs) :=
  L2.walk_of (n := 63) (k := 4) (x := "_law_script") (CX := fun _ => CX0) (sp := fun w => spLaw (K w.params)) hn (by decide) hdf ⟨rfl, by decide, by decide⟩ hY F (fun _ _ a ns hl _ hS => ⟨a, ns, rfl, hS, hl, fun _ => rfl⟩) fun _ _ _ _ _ z => z
end My
open PySem PySem.W PyProof.Rows
set_option maxRecDepth 100000 in
set_option maxHeartbeats 0 in
theorem PySem.Challenge.cw_oneroof_k01_parts_in_lowest_terms_holds : PySem.Challenge.rw_oneroof_k01_parts_in_lowest_terms.Holds := by
  w_on; o_law; k_head; (case hw => w_witness2)
  k_fill
  refine My.walk (l := PySem.Challenge.rw_oneroof_k01_parts_in_lowest_terms) rfl rfl (fun w h Y => PySem.W.kIn_of Y) ?F
  case F =>
    intro w mg fa h KX G hmg
    refine' My.all_mk KX G hmg ?g_l_cell ?g_l_digits ?g_l_frac ?g_l_whole ?g_l_same ?g_law ?g_Part ?in_Part ?ma_Part_sign ?ma_Part_eq ?ma_Part_repr ?g_Purse ?in_Purse ?l_Part_init ?c_Part_init ?k_Part_init ?lT_Part_init ?vT_Part_init ?l_Part_sign ?c_Part_sign ?k_Part_sign ?l_Part_eq ?c_Part_eq ?k_Part_eq ?l_Part_repr ?c_Part_repr ?k_Part_repr ?l_Purse_init ?c_Purse_init ?k_Purse_init ?lT_Purse_init ?vT_Purse_init ?l_l_cell ?c_l_cell ?k_l_cell ?l_l_digits ?c_l_digits ?k_l_digits ?l_l_frac ?c_l_frac ?k_l_frac ?l_l_whole ?c_l_whole ?k_l_whole ?l_l_same ?c_l_same ?k_l_same ?l_law ?c_law ?k_law ?h_kp_Part ?pg_Part ?hd_Part ?po_Part ?sa_Part ?mk_Part ?if_Part ?mf_Part_sign ?mf_Part_eq ?mf_Part_repr ?h_na_Part_top ?h_na_Part_low ?h_mro_Part ?h_cc_Part ?h_ne_Part ?ki_Part ?kt_Part ?ks_Purse_Part ?kn_Purse_Part ?ks_int_Part ?ks_str_Part ?ks_tuple_Part ?h_nf_Part_Part ?h_nf_Purse_Part ?h_nf_int_Part ?h_nf_str_Part ?h_nf_tuple_Part ?h_kp_Purse ?pg_Purse ?hd_Purse ?po_Purse ?sa_Purse ?mk_Purse ?if_Purse ?h_na_Purse__held ?h_mro_Purse ?h_cc_Purse ?h_cget ?h_ctk ?z_len ?z_range ?z_abs ?z_isinstance ?z_str ?z_repr ?z_int ?z_bool ?z_dict ?z_sorted ?b_gcd
    case g_l_cell => k_is
    case g_l_digits => k_is
    case g_l_frac => k_is
    case g_l_whole => k_is
    case g_l_same => k_is
    case g_law => k_is
    case g_Part => k_is
    case in_Part => k_is
    case ma_Part_sign => k_is
    case ma_Part_eq => k_is
    case ma_Part_repr => k_is
    case g_Purse => k_is
    case in_Purse => k_is
    case l_Part_init => k_is
    case c_Part_init => k_is
    case k_Part_init => k_is
    case lT_Part_init => k_is
    case vT_Part_init => exact (.cons ⟨_, rfl⟩ .nil)
    case l_Part_sign => k_is
    case c_Part_sign => k_is
    case k_Part_sign => k_is
    case l_Part_eq => k_is
    case c_Part_eq => k_is
    case k_Part_eq => k_is
    case l_Part_repr => k_is
    case c_Part_repr => k_is
    case k_Part_repr => k_is
    case l_Purse_init => k_is
    case c_Purse_init => k_is
    case k_Purse_init => k_is
    case lT_Purse_init => k_is
    case vT_Purse_init => exact (.cons rfl .nil)
    case l_l_cell => k_is
    case c_l_cell => k_is
    case k_l_cell => k_is
    case l_l_digits => k_is
    case c_l_digits => k_is
    case k_l_digits => k_is
    case l_l_frac => k_is
    case c_l_frac => k_is
    case k_l_frac => k_is
    case l_l_whole => k_is
    case c_l_whole => k_is
    case k_l_whole => k_is
    case l_l_same => k_is
    case c_l_same => k_is
    case k_l_same => k_is
    case l_law => k_is
    case c_law => k_is
    case k_law => k_is
    case h_kp_Part => k_is
    case pg_Part => k_is
    case hd_Part => k_is
    case po_Part => k_is
    case sa_Part => k_is
    case mk_Part => k_is
    case if_Part => k_is
    case mf_Part_sign => k_is
    case mf_Part_eq => k_is
    case mf_Part_repr => k_is
    case h_na_Part_top => k_is
    case h_na_Part_low => k_is
    case h_mro_Part => k_is
    case h_cc_Part => k_is
    case h_ne_Part => k_is
    case ki_Part => k_is
    case kt_Part => k_is
    case ks_Purse_Part => k_is
    case kn_Purse_Part => decide
    case ks_int_Part => k_is
    case ks_str_Part => k_is
    case ks_tuple_Part => k_is
    case h_nf_Part_Part => k_is
    case h_nf_Purse_Part => k_is
    case h_nf_int_Part => k_is
    case h_nf_str_Part => k_is
    case h_nf_tuple_Part => k_is
    case h_kp_Purse => k_is
    case pg_Purse => k_is
    case hd_Purse => k_is
    case po_Purse => k_is
    case sa_Purse => k_is
    case mk_Purse => k_is
    case if_Purse => k_is
    case h_na_Purse__held => k_is
    case h_mro_Purse => k_is
    case h_cc_Purse => k_is
    case h_cget => k_is
    case h_ctk => k_is
    case z_len => k_is
    case z_range => k_is
    case z_abs => k_is
    case z_isinstance => k_is
    case z_str => k_is
    case z_repr => k_is
    case z_int => k_is
    case z_bool => k_is
    case z_dict => k_is
    case z_sorted => k_is
    case b_gcd => k_is
#print axioms PySem.Challenge.cw_oneroof_k01_parts_in_lowest_terms_holds

