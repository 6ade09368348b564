import PyProof.Rows.All
import Wide.All
import OpenK.AllK
import Wide.FinOn
import HandS.ForMost
import HandS.Exc
import HandS.OwnEq
import HandS.Gcd
import HandS.RaiseMore
import HandS.IsInst
import HandS.NoneIn
import HandS.FStr
import HandS.Wide
import HandS.Defaults
import HandS.DictComp
import HandS.ListItems
import OpenK.KOps
import PyProof.Rows.RegStrFacts
import PyProof.Rows.ReprOcc
import HandS.Walk
import HandS.Steps
import HandS.Dict
import HandS.WordsDict
import PyProof.Rows.StrMeet
import HandS.MakeKwOnly
import HandS.TupAny
import HandS.Style
import HandS.DictEq
import HandS.Iter
import PySem.Challenge.RW_oneroof_k15_whole_fresh_gains_close
set_option Elab.async false
set_option maxRecDepth 100000
set_option maxHeartbeats 4000000
set_option linter.all false
namespace Own
open PySem PySem.Spec PyProof.Rows L2
section
variable {X : Cx}

/-- what a callee's run gives, told at any room below X -/
theorem run_sub {CX : CXT} {k : Nat} {f : Addr} {fd : FuncData} {ps : List Str} {sp : Sp} {E : XK} {A : Around} {pins : List (Addr × Obj)} {σ : L2.St} {H : Hp} {s : Shared} {R : Value → Shared → Prop} {us : List Value} {vs : List V} {Q : VK}
    (F : FnOk X.prog X.w X.K X.mg X.base CX k f fd ps sp) (sb : Sub X k A) (hb : Binds X.K fd ps []) (hx : Passes CX X E) (I : Inv X pins σ H s) (r : Vals vs us) (h : sp vs H Q E)
    (hR : ∀ v u H' s', Inv X pins σ H' s' → RelV v u → Q v H' → R u s') : wpAny (model X.prog X.w) A (call (.ref f) us) R X.xe s := by
  have e := I.env0
  have e0 : Env0 X.prog X.w X.K X.mg X.base A X.stack s H := ⟨sb.fr.trans e.frames, e.mod, e.bs, e.bsz, e.funs, e.frf, e.hok, e.bare⟩
  have hl : (us ++ []).length = ps.length := by rw [List.append_nil, ← r.length]; exact F.len _ _ _ _ h
  have hb2 := hb s us I.kIn hl
  rw [List.append_nil] at hb2
  refine wpAny_call (codeAny_mono (F.run A X.stack s H ⟨us, []⟩ us vs Q E sb.room e0 hb2 r h) fun z s' hq => ?_)
  cases z with
  | error e => exact hx pins σ H s e s' I hq
  | ok fl =>
    cases fl with
    | ret u =>
      obtain ⟨v, H', I', rv, q⟩ := I.after hq
      exact hR v u H' s' I' rv q
    | next => exact hq.elim
    | brk => exact hq.elim
    | cont => exact hq.elim

/-- repr(o): the class's own __repr__ -/
def rReprI (C : Addr) (sp : Sp) (E : XK) : List V → Hp → VK → Prop := fun vs H Q =>
  ∃ a dx fs, vs = [V.ref a] ∧ H a = some (.ins C dx fs) ∧ sp [.ref a] H (fun v H' => (∃ y, v = .str y) ∧ Q v H') E
theorem call_repr_own {CX : CXT} {k : Nat} {C f : Addr} {fd : FuncData} {ps : List Str} {sp : Sp} {E : XK} (F : FnOk X.prog X.w X.K X.mg X.base CX k f fd ps sp) (hr : Room (k + 1) X.A) (hb : Binds X.K fd ps []) (hx : Passes CX X E)
    (hs : PySem.W.findIn X.K (.ref C) "__repr__" = some (some (.ref f))) (hf : PySem.W.isFn X.K (.ref f) = true) : CallR X (.builtin "repr") (rReprI C sp E) := by
  intro pins s σ H xs us Q I r h
  obtain ⟨a, dx, fs, rfl, ha, h⟩ := h
  obtain ⟨u, rfl, ru⟩ := vals1 r
  obtain rfl : u = Value.ref a := ru
  obtain ⟨mA, J, _⟩ := ins_get I.hok ha
  obtain ⟨od, J, _⟩ := J.look
  obtain ⟨m, hF⟩ := I.fr
  refine PySem.W.repr_K hr.in1.units0 hF I.ok.mod.kin J hs hf ?_
  refine run_sub (A := X.A.in1) (vs := [V.ref a]) F ⟨hr.in1, rfl⟩ hb hx I (.cons (show RelV (V.ref a) (Value.ref a) from rfl) .nil) h fun v u H' s' I' rv q => ?_
  obtain ⟨⟨y, rfl⟩, q⟩ := q
  obtain ⟨t, rfl⟩ := rv
  exact ⟨.str y, H', I', ⟨t, rfl⟩, q⟩

/-- repr of an int, of a text -/
def rReprF : List V → Hp → VK → Prop := fun vs H Q =>
  (∃ i, vs = [V.int i] ∧ i.natAbs.log2 < 1920 ∧ Q (.str (toString i)) H) ∨ ∃ y, vs = [V.str y] ∧ (reprText y).length ≤ sizeLine ∧ Q (.str (reprText y)) H
theorem call_repr_flat : CallR X (.builtin "repr") rReprF := by
  intro pins s σ H xs us Q I r h
  rcases h with ⟨i, rfl, hz, q⟩ | ⟨y, rfl, hz, q⟩
  · exact SkE.call_repr_int pins s σ H _ us Q I r ⟨i, rfl, hz, q⟩
  · obtain ⟨u, rfl, t, rfl⟩ := vals1 r
    exact PySem.P.repr_of_str ⟨.str _, H, I.tok _, ⟨_, rfl⟩, q⟩ hz


theorem typeOf_at {M : Model} {h : Heap} {a : Addr} {o : Obj} (e : h.get? a = some o) : PySem.W.Looks M h (typeOf (.ref a)) o.cls := (PySem.W.Looks.ld e).andThen .now
/-- what the type of such a value is -/
theorem typeOf_ty {pins : List (Addr × Obj)} {σ : L2.St} {H : Hp} {s : Shared} {M : Model} {x : V} {u t : Value} (I : Inv X pins σ H s) (rx : RelV x u) (ty : TyX X.K H x t) : PySem.W.Looks M s.heap (typeOf u) t := by
  cases ty with
  | base b =>
    cases b with
    | non => cases (show u = Value.none from rx); exact .of_pure rfl
    | bl y => cases (show u = Value.bool y from rx); exact .of_pure rfl
    | int i => obtain ⟨t, q⟩ := (show ∃ t, u = Value.int i t from rx); cases q; exact .of_pure rfl
    | str y => obtain ⟨t, q⟩ := (show ∃ t, u = Value.str y t from rx); cases q; exact .of_pure rfl
    | flt y => obtain ⟨t, q⟩ := (show ∃ t, u = Value.float y t from rx); cases q; exact .of_pure rfl
    | @lst a xs ea =>
      cases (show u = Value.ref a from rx)
      obtain ⟨_, _, n, _, h1⟩ := (show ObjOk X.prog X.w H s.heap a (.lst xs) from I.hok a _ ea)
      exact typeOf_at h1
    | @frz a ob xs ea =>
      cases (show u = Value.ref a from rx)
      obtain ⟨_, _, _, n, _, h1⟩ := (show ObjOk X.prog X.w H s.heap a (.frz ob (.lst xs)) from I.hok a _ ea)
      exact typeOf_at h1
    | @tup a xs ea =>
      cases (show u = Value.ref a from rx)
      obtain ⟨_, _, _, o, h1, h2, _⟩ := (show ObjOk X.prog X.w H s.heap a (.tup xs) from I.hok a _ ea)
      exact h2 ▸ typeOf_at h1
    | @dK a kvs ea =>
      cases (show u = Value.ref a from rx)
      obtain ⟨_, _, vs, _, o, es, ep, h1, h2, _⟩ := (show ObjOk X.prog X.w H s.heap a (.dK kvs) from I.hok a _ ea)
      exact h2.1 ▸ typeOf_at h1
    | @dT a kvs ea =>
      cases (show u = Value.ref a from rx)
      obtain ⟨_, _, xs, _, o, es, ep, h1, h2, _⟩ := (show ObjOk X.prog X.w H s.heap a (.dT kvs) from I.hok a _ ea)
      exact h2.1 ▸ typeOf_at h1
    | @ins a C dx fs ea cl ha hn htk hm =>
      cases (show u = Value.ref a from rx)
      obtain ⟨mA, O, _⟩ := ins_get I.hok ea
      obtain ⟨od, J, _⟩ := O.look
      exact J.type
  | byt y => obtain ⟨t, q⟩ := (show ∃ t, u = Value.bytes y t from rx); cases q; exact .of_pure rfl
  | @set a S n ea =>
    cases (show u = Value.ref a from rx)
    obtain ⟨o, _, _, _, e, ex, _⟩ := I.hok a _ ea
    exact ex.1 ▸ typeOf_at e
  | @kList a o e c =>
    cases (show u = Value.ref a from rx)
    exact c ▸ typeOf_at (I.kIn a o e)
  | @kTuple a o e c =>
    cases (show u = Value.ref a from rx)
    exact c ▸ typeOf_at (I.kIn a o e)
  | @kDict a o e c =>
    cases (show u = Value.ref a from rx)
    exact c ▸ typeOf_at (I.kIn a o e)
  | @fTuple a ob xs ea =>
    cases (show u = Value.ref a from rx)
    obtain ⟨_, _, _, _, o, h1, h2, _⟩ := (show ObjOk X.prog X.w H s.heap a (.frz ob (.tup xs)) from I.hok a _ ea)
    exact h2 ▸ typeOf_at h1
  | @fDict a ob kvs ea =>
    cases (show u = Value.ref a from rx)
    obtain ⟨_, _, _, vs, _, o, es, ep, h1, h2, _⟩ := (show ObjOk X.prog X.w H s.heap a (.frz ob (.dK kvs)) from I.hok a _ ea)
    exact h2.1 ▸ typeOf_at h1

/-- a == b by the left one's own __eq__: b of a type that is no subclass of a's class -/
def rEqI (K : PySem.W.Frag) (C : Addr) (sp : Sp) (E : XK) (g : Bool → V) : R2 := fun x y H Q =>
  ∃ a dx fs t, x = V.ref a ∧ H a = some (.ins C dx fs) ∧ TyX K H y t ∧ PySem.W.notFirst K C t = true ∧ sp [.ref a, y] H (fun v H' => ∃ b, v = .bl b ∧ Q (g b) H') E
theorem op_eq_own {CX : CXT} {k : Nat} {C f : Addr} {fd : FuncData} {ps : List Str} {sp : Sp} {E : XK} (F : FnOk X.prog X.w X.K X.mg X.base CX k f fd ps sp) (hr : Room k X.A) (hb : Binds X.K fd ps []) (hx : Passes CX X E)
    (hs : PySem.W.findIn X.K (.ref C) "__eq__" = some (some (.ref f))) (hf : PySem.W.isFn X.K (.ref f) = true) : OpR X (compareOp .Eq) (rEqI X.K C sp E V.bl) := by
  intro pins s σ H x y v u Q I rx ry h
  obtain ⟨a, dx, fs, t, rfl, ha, ty, nf, h⟩ := h
  obtain rfl : v = Value.ref a := rx
  obtain ⟨mA, J, _⟩ := ins_get I.hok ha
  obtain ⟨od, J, _⟩ := J.look
  obtain ⟨m, hF⟩ := I.fr
  show wpAny _ _ (richCompare .Eq (.ref a) u) _ _ _
  refine PySem.W.cmp_K (op := .Eq) hr.units0 hF I.ok.mod.kin J (typeOf_ty I ry ty) nf hs hf ?_
  refine run_sub (vs := [V.ref a, y]) F ⟨hr, rfl⟩ hb hx I (.cons (show RelV (V.ref a) (Value.ref a) from rfl) (.cons ry .nil)) h fun v u H' s' I' rv q => ?_
  obtain ⟨b, rfl, q⟩ := q
  obtain rfl : u = Value.bool b := rv
  exact ⟨.bl b, H', I', rfl, q⟩

/-- a slot that the class has from object: found, bound, called -/
theorem ifBound_B {M : Model} {A : Around} {E : Value → Shared → Prop} {s : Shared} {K : PySem.W.Frag} {x C : Addr} {ox : Obj} {od : Option Obj} {name : Str} {id : String} {args : List Value} {Q : Option Value → Shared → Prop} (X : K.In s.heap) (I : PySem.W.InstAt s.heap x ox C od)
    (hs : PySem.W.findIn K (.ref C) name = some (some (.builtin id))) (hb : ∀ self, bindSpecial (.builtin id) self = pure (.builtin id, [self]))
    (h : wpAny M A (call (.builtin id) (.ref x :: args)) (fun v => Q (some v)) E s) : wpAny M A (callSpecialIfBound? (.ref x) name args) Q E s := by
  have fin : wpAny M A (call (.builtin id) ([.ref x] ++ args) >>= fun v => pure (some v)) Q E s := wpAny_bind (wpAny_mono h (fun v s' h' => wpAny_pure h') fun _ _ h' => h')
  simp only [callSpecialIfBound?, bindSpecialIfBound?]
  refine wpAny_holding (wpAny_bind (wpAny_bind (wpAny_bind (I.type.here ((PySem.W.looks_findIn X hs).here ?_)))))
  refine wpAny_bind (wpAny_askSetting (wpAny_ite ?_))
  split
  · exact wpAny_bind ((PySem.W.Looks.of_pure (hb _)).here (wpAny_pure (by exact fin)))
  · exact wpAny_tryCatch (wpAny_bind ((PySem.W.Looks.of_pure (hb _)).here (wpAny_pure (by exact fin))))
/-- a != b where the class has __eq__ alone: object's __ne__ asks it -/
theorem ne_own {prog : Program} {w : World} {A : Around} {E : Value → Shared → Prop} {s : Shared} {K : PySem.W.Frag} {x C f : Addr} {ox : Obj} {od : Option Obj} {b tb : Value} {Q : Value → Shared → Prop} (hu : A.in1.units < cLine) (X : K.In s.heap) (I : PySem.W.InstAt s.heap x ox C od)
    (hb : PySem.W.Looks (model prog w) s.heap (typeOf b) tb) (hn : PySem.W.notFirst K C tb = true) (hne : PySem.W.findIn K (.ref C) "__ne__" = some (some (.builtin "object.__ne__"))) (hm : PySem.W.mroIn K C (.type "object") = some true)
    (hs : PySem.W.findIn K (.ref C) "__eq__" = some (some (.ref f))) (hf : PySem.W.isFn K (.ref f) = true)
    (h : wpAny (model prog w) A.in1 (call (.ref f) [.ref x, b]) (fun v s' => ∃ k, v = .bool k ∧ Q (.bool (!k)) s') E s) : wpAny (model prog w) A (richCompare .NotEq (.ref x) b) Q E s := by
  have hu0 : A.units < cLine := Nat.lt_of_succ_lt hu
  have body : wpAny (model prog w) A (call (.builtin "object.__ne__") [.ref x, b]) (fun v s' => ∃ k, v = .bool k ∧ Q v s') E s := by
    refine wpAny_call (codeAny_call_builtin PySem.F.slot_object_ne.plain PySem.F.entry_object_ne (PySem.W.check_slot (i := "object.__ne__") (owner := "object") (n := "__ne__") (by decide +kernel) (by decide +kernel) (I.type.andThen (PySem.W.looks_mroIn X hm)) (PySem.F.args_object_ne_2 _ _) ?_))
    unfold Builtin.«object.__ne__»
    refine wpAny_bind (m := PySem.slotArgs "__ne__" 1 _) (wpAny_pure ?_)
    refine wpAny_bind (m := cRoomFor _ _) (wpAny_cRoomFor hu ?_)
    refine wpAny_bind (m := callSpecialIfBound? (.ref x) (Str.ofString "__eq__") _) (PySem.W.ifBound_K X I hs hf (wpAny_mono h (fun v s' hv => ?_) fun _ _ e => e))
    obtain ⟨k, rfl, q⟩ := hv
    exact wpAny_bind (wpAny_truthy_bool (wpAny_pure ⟨_, rfl, q⟩))
  have one : wpAny (model prog w) A (tryCompare (.ref x) (cmpInfo .NotEq).2.1 b) (fun r s' => ∃ v, r = some v ∧ Q v s') E s := by
    unfold tryCompare
    refine wpAny_bind (ifBound_B X I hne PySem.F.slot_object_ne.bind (wpAny_mono body (fun v s' hv => ?_) fun _ _ e => e))
    obtain ⟨k, rfl, q⟩ := hv
    exact wpAny_pure ⟨_, rfl, q⟩
  have fin : ∀ {r : Option Value} {s' : Shared}, (∃ v, r = some v ∧ Q v s') → ∃ v, r = some v ∧ Q v s' := fun z => z
  unfold richCompare
  simp only [PySem.oneThing_ref]
  refine wpAny_holding (wpAny_bind (wpAny_cRoomFor hu0 ?_))
  refine wpAny_bind (I.type.here (wpAny_bind (hb.here ?_)))
  split
  · rename_i q
    have e : PySem.W.subIn K tb (.ref C) = some false := by
      rcases Bool.or_eq_true_iff.mp hn with e | e
      · rw [beq_iff_eq.mp e] at q; simp at q
      · exact beq_iff_eq.mp e
    refine wpAny_bind ((PySem.W.looks_subIn X e).here ?_)
    simp only [Bool.false_eq_true, if_false]
    refine wpAny_bind (wpAny_mono one (fun r s' z => ?_) fun _ _ e => e)
    obtain ⟨v, rfl, hq⟩ := z
    exact wpAny_pure hq
  · refine wpAny_bind (wpAny_pure ?_)
    simp only [Bool.false_eq_true, if_false]
    refine wpAny_bind (wpAny_mono one (fun r s' z => ?_) fun _ _ e => e)
    obtain ⟨v, rfl, hq⟩ := z
    exact wpAny_pure hq
theorem op_ne_own {CX : CXT} {k : Nat} {C f : Addr} {fd : FuncData} {ps : List Str} {sp : Sp} {E : XK} (F : FnOk X.prog X.w X.K X.mg X.base CX k f fd ps sp) (hr : Room (k + 1) X.A) (hb : Binds X.K fd ps []) (hx : Passes CX X E)
    (hs : PySem.W.findIn X.K (.ref C) "__eq__" = some (some (.ref f))) (hf : PySem.W.isFn X.K (.ref f) = true)
    (hne : PySem.W.findIn X.K (.ref C) "__ne__" = some (some (.builtin "object.__ne__"))) (hm : PySem.W.mroIn X.K C (.type "object") = some true) : OpR X (compareOp .NotEq) (rEqI X.K C sp E fun b => V.bl (!b)) := by
  intro pins s σ H x y v u Q I rx ry h
  obtain ⟨a, dx, fs, t, rfl, ha, ty, nf, h⟩ := h
  obtain rfl : v = Value.ref a := rx
  obtain ⟨mA, J, _⟩ := ins_get I.hok ha
  obtain ⟨od, J, _⟩ := J.look
  show wpAny _ _ (richCompare .NotEq (.ref a) u) _ _ _
  refine ne_own hr.in1.units0 I.kIn J (typeOf_ty I ry ty) nf hne hm hs hf ?_
  refine run_sub (A := X.A.in1) (vs := [V.ref a, y]) F ⟨hr.in1, rfl⟩ hb hx I (.cons (show RelV (V.ref a) (Value.ref a) from rfl) (.cons ry .nil)) h fun v u H' s' I' rv q => ?_
  obtain ⟨b, rfl, q⟩ := q
  obtain rfl : u = Value.bool b := rv
  exact ⟨b, rfl, .bl (!b), H', I', rfl, q⟩

/-- // by any number that is not nought, both below 2 ^ 9000 -/
def CDivA (_ j : Int) : Prop := j ≠ 0 ∧ j.natAbs.log2 < 9000
theorem op_fdivA : OpR X (binaryOp .FloorDiv) (rI CDivA fun i j => .int (i.fdiv j)) := opI fun i j _ _ _ _ _ hc q =>
  floordiv_int hc.1 q (.inl (PyProof.noPylong_of_log2 hc.2))
end
end Own

set_option Elab.async false
set_option maxRecDepth 100000
set_option maxHeartbeats 4000000
set_option linter.all false
namespace Own
open PySem PySem.Spec PyProof.Rows L2
/-! places of lists -/
theorem atI_lt {α : Type} {xs : List α} {k : Int} (h0 : 0 ≤ k) (h1 : k < xs.length) : ∃ v, xs[k.toNat]? = some v ∧ atI xs k = some v := by
  have hk : k.toNat < xs.length := by omega
  refine ⟨xs[k.toNat], List.getElem?_eq_getElem hk, ?_⟩
  unfold atI ixN
  rw [if_pos h0, if_pos h1]
  exact List.getElem?_eq_getElem hk
theorem atI_map {α β : Type} {f : α → β} {xs : List α} {k : Int} {v : α} (h : atI xs k = some v) : atI (xs.map f) k = some (f v) := by
  unfold atI at h ⊢
  rw [List.length_map]
  cases e : ixN xs.length k with
  | none => rw [e] at h; cases h
  | some j =>
    rw [e] at h
    have h : xs[j]? = some v := h
    show (xs.map f)[j]? = some (f v)
    rw [List.getElem?_map, h]
    rfl
theorem atI_nat {α : Type} {xs : List α} {j : Nat} {v : α} (h : xs[j]? = some v) : atI xs (j : Int) = some v := by
  have hj := (List.getElem?_eq_some_iff.mp h).1
  obtain ⟨w, h1, h2⟩ := atI_lt (xs := xs) (k := (j : Int)) (by omega) (by omega)
  rw [Int.toNat_natCast, h] at h1
  rw [h2, ← h1]
theorem pick4 {P : Int → Prop} {a b c d k : Int} (h0 : 0 ≤ k) (h1 : k < 4) (ha : P a) (hb : P b) (hc : P c) (hd : P d) : ∃ v, atI [V.int a, .int b, .int c, .int d] k = some (.int v) ∧ P v := by
  rcases (by omega : k = 0 ∨ k = 1 ∨ k = 2 ∨ k = 3) with rfl | rfl | rfl | rfl
  · exact ⟨a, rfl, ha⟩
  · exact ⟨b, rfl, hb⟩
  · exact ⟨c, rfl, hc⟩
  · exact ⟨d, rfl, hd⟩
/-- the two places of a pair -/
theorem atI_0 {α : Type} {x : α} {xs : List α} : atI (x :: xs) 0 = some x := Own.atI_nat (j := 0) rfl
theorem atI_1 {α : Type} {x y : α} {xs : List α} : atI (x :: y :: xs) 1 = some y := Own.atI_nat (j := 1) rfl
theorem drawn5 {ds : List Int} {a b c d e : Int} (h : Paired (fun d z => 0 ≤ d ∧ d < z) ds [a, b, c, d, e]) : ∃ v w x y z : Int, ds = [v, w, x, y, z] ∧ (0 ≤ v ∧ v < a) ∧ (0 ≤ w ∧ w < b) ∧ (0 ≤ x ∧ x < c) ∧ (0 ≤ y ∧ y < d) ∧ (0 ≤ z ∧ z < e) := by
  cases h with
  | cons h1 h => cases h with
    | cons h2 h => cases h with
      | cons h3 h => cases h with
        | cons h4 h => cases h with
          | cons h5 h => cases h with
            | nil => exact ⟨_, _, _, _, _, rfl, h1, h2, h3, h4, h5⟩
theorem drawn4 {ds : List Int} {a b c d : Int} (h : Paired (fun d z => 0 ≤ d ∧ d < z) ds [a, b, c, d]) : ∃ v w x y : Int, ds = [v, w, x, y] ∧ (0 ≤ v ∧ v < a) ∧ (0 ≤ w ∧ w < b) ∧ (0 ≤ x ∧ x < c) ∧ (0 ≤ y ∧ y < d) := by
  cases h with
  | cons h1 h => cases h with
    | cons h2 h => cases h with
      | cons h3 h => cases h with
        | cons h4 h => cases h with
          | nil => exact ⟨_, _, _, _, rfl, h1, h2, h3, h4⟩
theorem drawn3 {ds : List Int} {a b c : Int} (h : Paired (fun d z => 0 ≤ d ∧ d < z) ds [a, b, c]) : ∃ v w x : Int, ds = [v, w, x] ∧ (0 ≤ v ∧ v < a) ∧ (0 ≤ w ∧ w < b) ∧ (0 ≤ x ∧ x < c) := by
  cases h with
  | cons h1 h => cases h with
    | cons h2 h => cases h with
      | cons h3 h => cases h with
        | nil => exact ⟨_, _, _, rfl, h1, h2, h3⟩
/-! products -/
theorem mulWn {i j : Int} (n m : Nat) (hi : i.natAbs < 2 ^ n) (hj : j.natAbs < 2 ^ m) (h0 : 0 < n) (h1 : 0 < m) (h : n + m ≤ 1000000) : CMulW i j := wide_mul hi hj h0 h1 h
theorem mulW64 {i j : Int} (hi : i.natAbs < 2 ^ 64) (hj : j.natAbs < 2 ^ 64) : CMulW i j := wide_mul hi hj (by decide) (by decide) (by decide)
theorem mul_lt {i j : Int} (n m : Nat) (hi : i.natAbs < 2 ^ n) (hj : j.natAbs < 2 ^ m) : (i * j).natAbs < 2 ^ (n + m) := wide_lt hi hj
theorem divA_of {i j : Int} (n : Nat) (h : j ≠ 0) (hj : j.natAbs < 2 ^ n) (h0 : 0 < n) (h9 : n ≤ 9000) : CDivA i j := ⟨h, Nat.lt_of_lt_of_le (PySem.Flt.log2_lt_of h0 hj) h9⟩
theorem log2_of {i : Int} (h : i.natAbs < 2 ^ 1920) : i.natAbs.log2 < 1920 := PySem.Flt.log2_lt_of (by decide) h
/-! loops -/
section
variable {K : PySem.W.Frag} {a : Addr} {xs : List V} {g : TG} {tb : TS} {D : Ends} {σ : L2.St} {H : Hp}
theorem for_listI {j : Nat} (hv : σ[j]? = some (some (.ref a))) (hq : SqL K H a xs) (Pv : Nat → L2.St → Hp → Prop) (h0 : Pv 0 σ H) (hl : ∀ i σ H, i ≤ xs.length → Pv i σ H → SqL K H a xs)
    (hs : ∀ i x σ H, xs[i]? = some x → Pv i σ H → g x σ H fun σ2 H2 => tb { D with nx := Pv (i + 1), ct := Pv (i + 1), bk := D.nx } σ2 H2) (hd : ∀ σ H, Pv xs.length σ H → D.nx σ H) : tFor (iList K (tVar j)) g tb D σ H :=
  ⟨_, hv, a, rfl, ⟨_, hq⟩, for_list Pv h0 hl hs hd⟩
theorem for_rangeI {ta : TA} {n : Int} (hta : ∀ R : List V → Hp → Prop, R [.int n] H → ta σ H R) (h1 : 0 ≤ n) (h2 : n < 2 ^ 62) (Pv : Nat → L2.St → Hp → Prop) (h0 : Pv 0 σ H)
    (hs : ∀ (i : Nat) σ H, i < n.toNat → Pv i σ H → g (.int (0 + (i : Int))) σ H fun σ2 H2 => tb { D with nx := Pv (i + 1), ct := Pv (i + 1), bk := D.nx } σ2 H2) (hd : ∀ σ H, Pv n.toNat σ H → D.nx σ H) : tFor (iRng1 ta) g tb D σ H :=
  hta _ ⟨n, rfl, by omega, h2, for_range Pv h0 hs hd⟩
end
theorem seq_i {t u : TS} {D : Ends} {σ : L2.St} {H : Hp} (h : ∀ N : L2.St → Hp → Prop, (∀ σ H, u D σ H → N σ H) → t { D with nx := N } σ H) : tSeq t u D σ H := h _ fun _ _ x => x
/-! the heap grows -/
theorem alloc {H H1 : Hp} {p : Addr} {o : HO} (hp : H p = none) (h : L2.upd H p o = H1) : Ext H H1 ∧ H1 p = some o := by
  subst h
  exact ⟨Ext.upd hp, upd_same⟩
theorem upd_ext {H H1 : Hp} {p : Addr} {o : HO} (e : Ext H H1) (hp : H p = none) : Ext H (L2.upd H1 p o) := fun b u h => by
  rw [upd_ne (ne_of_none h hp)]
  exact e b u h
theorem Ext.refl' (H : Hp) : Ext H H := fun _ _ h => h
theorem seqL {K : PySem.W.Frag} {H H1 : Hp} {a : Addr} {xs : List V} (h : SqL K H a xs) (e : Ext H H1) : SqL K H1 a xs := SqL.ext h e
theorem ofL {K : PySem.W.Frag} {H : Hp} {a : Addr} {xs : List V} (h : H a = some (.lst xs)) : SqL K H a xs := .inl (.inl h)
theorem ofT {K : PySem.W.Frag} {H : Hp} {a : Addr} {xs : List V} (h : H a = some (.tup xs)) : SqT K H a xs := .inl (.inl h)
/-! a slice of ints is ints -/
theorem cut_ints (ns : List Int) (lo hi : Option Int) : ∃ ms : List Int, cutV (ns.map V.int) lo hi = ms.map V.int ∧ ms.length ≤ ns.length := by
  refine ⟨(ns.drop (HT.sIx (ns.map V.int).length 0 lo)).take (HT.sIx (ns.map V.int).length (ns.map V.int).length hi - HT.sIx (ns.map V.int).length 0 lo), ?_, ?_⟩
  · unfold cutV
    rw [List.map_take, List.map_drop]
  · rw [List.length_take, List.length_drop]
    omega
/-! drawn numbers -/
abbrev Drawn (ds szs : List Int) : Prop := Paired (fun d z => 0 ≤ d ∧ d < z) ds szs
theorem take_snoc {α : Type} {xs : List α} {i : Nat} {x : α} (h : xs[i]? = some x) : xs.take (i + 1) = xs.take i ++ [x] := by
  rw [List.take_add_one, h]
  rfl
theorem tyLst {K : PySem.W.Frag} {H : Hp} {p : Addr} {xs : List V} (h : H p = some (.lst xs)) : tyV K "list" (.ref p) H := .inl ⟨rfl, _, .inl (.inl h)⟩
/-- a def with defaults that lets nothing out -/
theorem okD {P : Program} {w : World} {K : PySem.W.Frag} {mg : Str → Option Value} {base : Heap} {x qual : Str} {params : Arguments} {body : List Stmt} {scope : Scope} {dvs : List V} {kws : List (Str × V)} {f : Addr} {fd : FuncData} {N ps : List Str} {k : Nat} {sp : Sp}
    (F : FunD K x qual params body scope dvs kws f fd) (S : FnScope N ps scope) (len : ∀ vs H Q E, sp vs H Q E → vs.length = ps.length)
    (hbody : ∀ (cdv : Value) (A : Around) (outer : List Env) (s : Shared) (H : Hp) (vs : List V) (Q : VK) (E : XK), Room k (A.deeper (envOfC qual scope s.heap.objs.size f cdv)) → sp vs H Q E →
      ∃ t, PSs (cxOf CX0 P w K mg base N qual scope f cdv A outer s H E).nox body t ∧ t { nx := fun _ H' => Q .non H', rt := Q } (L2.start N vs) H) : FnOk P w K mg base CX0 (k + 1) f fd ps sp :=
  F.ok S len fun cdv A outer s H vs Q E hr h => by
    obtain ⟨t, h1, h2⟩ := hbody cdv A outer s H vs Q E hr h
    exact ⟨t, h1.nox, h2⟩
/-- what is never reached -/
theorem pe_never {X : Cx} {e : Expr} : PE X e (fun _ _ _ => False) := ⟨fun _ _ _ _ _ _ h => h.elim⟩
/-- an instance made: its dict, itself, its fields -/
theorem makeP {H H1 : Hp} {x dx C : Addr} {fs0 fs : List (Str × V)} (hx : H x = none) (hd : H dx = none) (h : L2.upd (L2.upd (L2.upd H dx (.own x)) x (.ins C dx fs0)) x (.ins C dx fs) = H1) : Ext H H1 ∧ H1 x = some (.ins C dx fs) := by
  subst h
  exact ⟨upd_ext (upd_ext (Ext.upd hd) hx) hx, upd_same⟩
/-! isinstance against an own class -/
theorem kit_self {K : PySem.W.Frag} {C : Addr} : PySem.W.kitOne K (.ref C) (.ref C) = some true := by
  unfold PySem.W.kitOne
  rw [if_pos (by simp)]
theorem kit_cls_of {K : PySem.W.Frag} {C : Addr} {t : Value} {b : Bool} (h1 : PySem.W.isClsIn K C = true) (h2 : PySem.W.typeIn K (.ref C) = some (.type "type")) (h3 : PySem.W.subIn K t (.ref C) = some b) : PySem.W.kitCls K t (.ref C) = some b := by
  unfold PySem.W.kitCls
  unfold PySem.W.isClsIn at h1
  show (if ((PySem.W.clsIn K C).isSome && PySem.W.typeIn K (.ref C) == some (.type "type")) = true then PySem.W.subIn K t (.ref C) else none) = some b
  rw [h1, h2, if_pos (by simp), h3]
theorem kit_own {K : PySem.W.Frag} {C D : Addr} {b : Bool} (h1 : PySem.W.isClsIn K C = true) (h2 : PySem.W.typeIn K (.ref C) = some (.type "type")) (h3 : PySem.W.subIn K (.ref D) (.ref C) = some b) (hne : ¬ D = C) : PySem.W.kitOne K (.ref D) (.ref C) = some b := by
  unfold PySem.W.kitOne
  rw [if_neg (by simpa using hne)]
  exact kit_cls_of h1 h2 h3
theorem kit_ty {K : PySem.W.Frag} {C : Addr} {n : String} {b : Bool} (h1 : PySem.W.isClsIn K C = true) (h2 : PySem.W.typeIn K (.ref C) = some (.type "type")) (h3 : PySem.W.subIn K (.type n) (.ref C) = some b) : PySem.W.kitOne K (.type n) (.ref C) = some b := by
  unfold PySem.W.kitOne
  rw [if_neg (by simp)]
  exact kit_cls_of h1 h2 h3
/-! fields -/
theorem lookup_ne {f g : Str} {v : V} {fs : List (Str × V)} (h : ¬ g = f) : (putF f v fs).lookup g = fs.lookup g := by rw [lookup_putF, if_neg h]
theorem lookup_eq {f : Str} {v : V} {fs : List (Str × V)} : (putF f v fs).lookup f = some v := by rw [lookup_putF, if_pos rfl]
/-- the fields of a Part -/
def fsP (t l : Int) : List (Str × V) := putF "low" (.int l) (putF "top" (.int t) [])
theorem fsP_top (t l : Int) : (fsP t l).lookup ("top" : Str) = some (.int t) := by
  unfold fsP
  rw [lookup_ne (by decide +kernel), lookup_eq]
theorem fsP_low (t l : Int) : (fsP t l).lookup ("low" : Str) = some (.int l) := lookup_eq
theorem fsP_no (t l : Int) {m : Str} (h1 : ¬ m = "top") (h2 : ¬ m = "low") : (fsP t l).lookup m = none := by
  unfold fsP
  rw [lookup_ne h2, lookup_ne h1]
  rfl
/-- a Part at p -/
def PartAt (C : Addr) (H : Hp) (p : Addr) (t l : Int) : Prop := ∃ dx, H p = some (.ins C dx (fsP t l))
theorem PartAt.ext {C : Addr} {H H1 : Hp} {p : Addr} {t l : Int} (h : PartAt C H p t l) (e : Ext H H1) : PartAt C H1 p t l := let ⟨dx, h⟩ := h; ⟨dx, e _ _ h⟩
def sgn (t : Int) : Int := if t = 0 then 0 else if 0 < t then 1 else -1
/-- how a fraction shows -/
def showP (t l : Int) : Str := if l = 1 then ((toString t : String) : Str) else (((toString t : String) : Str) ++ (Str.ofString "/")) ++ ((toString l : String) : Str)
/-! fractions -/
def gcdI (t l : Int) : Int := ((Nat.gcd t.natAbs l.natAbs : Nat) : Int)
def fracT (t l : Int) : Int := ((if 0 < l then 1 else -1) * t) / gcdI t l
def fracL (t l : Int) : Int := (l.natAbs : Int) / gcdI t l
theorem gcdI_pos {t l : Int} (h : l ≠ 0) : 0 < gcdI t l := by
  unfold gcdI
  have : 0 < Nat.gcd t.natAbs l.natAbs := Nat.gcd_pos_of_pos_right _ (by omega)
  omega
theorem gcdI_le {t l : Int} (h : l ≠ 0) : (gcdI t l).natAbs ≤ l.natAbs := by
  unfold gcdI
  rw [Int.natAbs_natCast]
  exact Nat.le_of_dvd (by omega) (Nat.gcd_dvd_right _ _)
theorem gcdI_dvd_t (t l : Int) : gcdI t l ∣ t := Int.ofNat_dvd_left.mpr (Nat.gcd_dvd_left _ _)
theorem gcdI_dvd_l (t l : Int) : gcdI t l ∣ l := Int.ofNat_dvd_left.mpr (Nat.gcd_dvd_right _ _)
theorem fdiv_neg_dvd {t g : Int} (h : g ∣ t) : t.fdiv (-g) = -(t / g) := by
  rw [Int.fdiv_eq_ediv_of_dvd (Int.neg_dvd.mpr h), Int.ediv_neg]
theorem frac_pos {t l : Int} (h : 0 < l) : t.fdiv (gcdI t l) = fracT t l ∧ l.fdiv (gcdI t l) = fracL t l := by
  refine ⟨?_, ?_⟩
  · unfold fracT
    rw [if_pos h, Int.one_mul, Int.fdiv_eq_ediv_of_dvd (gcdI_dvd_t t l)]
  · unfold fracL
    rw [Int.fdiv_eq_ediv_of_dvd (gcdI_dvd_l t l), Int.natAbs_of_nonneg (by omega)]
theorem frac_neg {t l : Int} (h : l < 0) : t.fdiv (-gcdI t l) = fracT t l ∧ l.fdiv (-gcdI t l) = fracL t l := by
  refine ⟨?_, ?_⟩
  · unfold fracT
    rw [if_neg (by omega), fdiv_neg_dvd (gcdI_dvd_t t l), Int.neg_mul, Int.one_mul, Int.neg_ediv_of_dvd (gcdI_dvd_t t l)]
  · unfold fracL
    rw [fdiv_neg_dvd (gcdI_dvd_l t l), ← Int.neg_ediv_of_dvd (gcdI_dvd_l t l)]
    congr 1
    omega
theorem gcdI_scale {k : Int} (hk : 0 < k) (t l : Int) : gcdI (t * k) (l * k) = gcdI t l * k := by
  unfold gcdI
  rw [Int.natAbs_mul, Int.natAbs_mul, Nat.gcd_mul_right, Int.natCast_mul, Int.natAbs_of_nonneg (by omega)]
theorem frac_scale {k : Int} (hk : 0 < k) (t l : Int) : fracT (t * k) (l * k) = fracT t l ∧ fracL (t * k) (l * k) = fracL t l := by
  have hs : (0 < l * k) ↔ (0 < l) := by
    constructor
    · intro h
      rcases Int.lt_trichotomy l 0 with h1 | h1 | h1
      · have := Int.mul_neg_of_neg_of_pos h1 hk
        omega
      · subst h1; omega
      · exact h1
    · exact fun h => Int.mul_pos h hk
  refine ⟨?_, ?_⟩
  · unfold fracT
    rw [gcdI_scale hk, ← Int.mul_assoc]
    have e : (if 0 < l * k then (1 : Int) else -1) = if 0 < l then 1 else -1 := by
      by_cases h : 0 < l
      · rw [if_pos h, if_pos (hs.mpr h)]
      · rw [if_neg h, if_neg (fun z => h (hs.mp z))]
    rw [e]
    exact Int.mul_ediv_mul_of_pos_left _ _ hk
  · unfold fracL
    rw [gcdI_scale hk, Int.natAbs_mul, Int.natCast_mul, Int.natAbs_of_nonneg (a := k) (by omega)]
    exact Int.mul_ediv_mul_of_pos_left _ _ hk
theorem fracL_pos {t l : Int} (h : l ≠ 0) : 0 < fracL t l := by
  unfold fracL
  have hd : gcdI t l ∣ (l.natAbs : Int) := Int.ofNat_dvd_left.mpr (by rw [Int.natAbs_natCast]; exact Nat.gcd_dvd_right _ _)
  obtain ⟨c, hc⟩ := hd
  have hg := gcdI_pos (t := t) h
  rw [hc, Int.mul_ediv_cancel_left _ (by omega)]
  have h2 : 0 < c * gcdI t l := by rw [Int.mul_comm, ← hc]; omega
  exact Int.pos_of_mul_pos_left h2 hg
/-- a fraction by its two quotients: t = g c, l = g d -/
theorem frac_split {t l : Int} (h : l ≠ 0) : ∃ g c d : Int, 0 < g ∧ t = g * c ∧ l = g * d ∧ ((0 < l ∧ fracT t l = c ∧ fracL t l = d) ∨ (l < 0 ∧ fracT t l = -c ∧ fracL t l = -d)) := by
  have hg := gcdI_pos (t := t) h
  obtain ⟨c, hc⟩ := gcdI_dvd_t t l
  obtain ⟨d, hd⟩ := gcdI_dvd_l t l
  have e1 : t / gcdI t l = c := by
    conv => lhs; lhs; rw [hc]
    exact Int.mul_ediv_cancel_left _ (by omega)
  have e2 : l / gcdI t l = d := by
    conv => lhs; lhs; rw [hd]
    exact Int.mul_ediv_cancel_left _ (by omega)
  refine ⟨gcdI t l, c, d, hg, hc, hd, ?_⟩
  rcases Int.lt_trichotomy l 0 with h1 | h1 | h1
  · refine .inr ⟨h1, ?_, ?_⟩
    · rw [← (frac_neg h1).1, fdiv_neg_dvd (gcdI_dvd_t t l), e1]
    · rw [← (frac_neg h1).2, fdiv_neg_dvd (gcdI_dvd_l t l), e2]
  · exact absurd h1 h
  · refine .inl ⟨h1, ?_, ?_⟩
    · rw [← (frac_pos h1).1, Int.fdiv_eq_ediv_of_dvd (gcdI_dvd_t t l), e1]
    · rw [← (frac_pos h1).2, Int.fdiv_eq_ediv_of_dvd (gcdI_dvd_l t l), e2]
theorem frac_cross {t l : Int} (h : l ≠ 0) : fracT t l * l = t * fracL t l := by
  obtain ⟨g, c, d, _, h1, h2, h3⟩ := frac_split (t := t) h
  rcases h3 with ⟨_, e1, e2⟩ | ⟨_, e1, e2⟩
  · rw [e1, e2]
    conv => lhs; rw [h2]
    conv => rhs; rw [h1]
    rw [Int.mul_left_comm, Int.mul_assoc]
  · rw [e1, e2]
    conv => lhs; rw [h2]
    conv => rhs; rw [h1]
    rw [Int.mul_left_comm, Int.neg_mul, Int.mul_neg, Int.mul_neg, Int.mul_assoc]
theorem fracT_le {t l : Int} (h : l ≠ 0) : (fracT t l).natAbs ≤ t.natAbs := by
  obtain ⟨g, c, d, hg, h1, h2, h3⟩ := frac_split (t := t) h
  have e : (fracT t l).natAbs = c.natAbs := by
    rcases h3 with ⟨_, e1, _⟩ | ⟨_, e1, _⟩
    · rw [e1]
    · rw [e1, Int.natAbs_neg]
  have e2 : t.natAbs = g.natAbs * c.natAbs := by
    conv => lhs; rw [h1]
    exact Int.natAbs_mul _ _
  rw [e, e2]
  exact Nat.le_mul_of_pos_left _ (by omega)
theorem fracL_le {t l : Int} (h : l ≠ 0) : (fracL t l).natAbs ≤ l.natAbs := by
  obtain ⟨g, c, d, hg, h1, h2, h3⟩ := frac_split (t := t) h
  have e : (fracL t l).natAbs = d.natAbs := by
    rcases h3 with ⟨_, _, e1⟩ | ⟨_, _, e1⟩
    · rw [e1]
    · rw [e1, Int.natAbs_neg]
  have e2 : l.natAbs = g.natAbs * d.natAbs := by
    conv => lhs; rw [h2]
    exact Int.natAbs_mul _ _
  rw [e, e2]
  exact Nat.le_mul_of_pos_left _ (by omega)
theorem fracT_zero {t l : Int} (h : l ≠ 0) : fracT t l = 0 ↔ t = 0 := by
  have hc := frac_cross (t := t) h
  have hL := fracL_pos (t := t) h
  constructor
  · intro z
    rw [z, Int.zero_mul] at hc
    rcases Int.mul_eq_zero.mp hc.symm with z | z
    · exact z
    · omega
  · intro z
    rw [z, Int.zero_mul] at hc
    rcases Int.mul_eq_zero.mp hc with z | z
    · rw [← z, ‹t = 0›]
    · exact absurd z h
theorem frac_neg_neg {t l : Int} (h : l ≠ 0) : fracT (-t) (-l) = fracT t l ∧ fracL (-t) (-l) = fracL t l := by
  have eg : gcdI (-t) (-l) = gcdI t l := by
    unfold gcdI
    rw [Int.natAbs_neg, Int.natAbs_neg]
  refine ⟨?_, ?_⟩
  · unfold fracT
    rw [eg]
    congr 1
    by_cases h1 : 0 < l
    · rw [if_pos h1, if_neg (by omega)]
      omega
    · rw [if_neg h1, if_pos (by omega)]
      omega
  · unfold fracL
    rw [eg, Int.natAbs_neg]
/-- T/L is not (T + L)/L, nor (2T + 1)/2L -/
theorem frac_other1 {T L : Int} (hL : 0 < L) : ¬ (T = fracT (T + L) L ∧ L = fracL (T + L) L) := by
  rintro ⟨h1, h2⟩
  have hc := frac_cross (t := T + L) (l := L) (by omega)
  rw [← h1, ← h2, Int.add_mul] at hc
  have : 0 < L * L := Int.mul_pos hL hL
  omega
theorem frac_other2 {T L : Int} (hL : 0 < L) : ¬ (T = fracT (T * 2 + 1) (L * 2) ∧ L = fracL (T * 2 + 1) (L * 2)) := by
  rintro ⟨h1, h2⟩
  have hc := frac_cross (t := T * 2 + 1) (l := L * 2) (by omega)
  rw [← h1, ← h2, Int.add_mul, Int.mul_assoc T 2 L, Int.mul_comm 2 L] at hc
  omega
/-! texts of numbers -/
theorem int_text_len {i : Int} (h : i.natAbs.log2 < 1920) : ((toString i : String) : Str).length ≤ 1921 := PyProof.Rows.int_text_len_1921 h
theorem int_text_low {i : Int} : ∀ c ∈ ((toString i : String) : Str).cps.toList, c < 128 := fun c hc => by
  rcases Nat.lt_or_ge c 128 with h | h
  · exact h
  · exact absurd hc (PyProof.Rows.int_text_free' c ⟨by omega, by omega⟩ i)
/-- a text whose repr has room -/
structure Small (y : Str) (n : Nat) : Prop where
  len : y.length ≤ n
  low : ∀ c ∈ y.cps.toList, c < 128
theorem Small.int {i : Int} (h : i.natAbs.log2 < 1920) : Small ((toString i : String) : Str) 1921 := ⟨int_text_len h, int_text_low⟩
theorem Small.app {x y : Str} {n m : Nat} (a : Small x n) (b : Small y m) : Small (x ++ y) (n + m) := by
  refine ⟨?_, fun c hc => ?_⟩
  · rw [strLen_append]
    exact Nat.add_le_add a.len b.len
  · rw [Str.cps_append, Array.toList_append] at hc
    rcases List.mem_append.mp hc with h | h
    · exact a.low c h
    · exact b.low c h
theorem Small.mono {x : Str} {n m : Nat} (a : Small x n) (h : n ≤ m) : Small x m := ⟨Nat.le_trans a.len h, a.low⟩
theorem Small.repr {y : Str} {n : Nat} (a : Small y n) (h : n ≤ 1000000) : (reprText y).length ≤ sizeLine := by
  have h1 := StrLaws.reprText_len y fun c hc => Nat.lt_of_lt_of_le (a.low c hc) (by decide)
  have h2 := a.len
  have h3 : sizeLine = 16777216 := rfl
  omega
theorem shaped_str {y : Str} {n : Nat} (a : Small y n) : SeqAt.shaped (.str y) = true := by
  have h : (PyData.str y).canLay0 = true := by
    show PySem.PyData.strOk y = true
    unfold PySem.PyData.strOk
    rw [Array.all_eq_true]
    intro j hj
    have := a.low y.cps[j] (by simp)
    exact decide_eq_true (by omega)
  unfold SeqAt.shaped
  rw [h]
  rfl
/-- a dict comprehension's turns over a list that stays -/
theorem dcW_list {K : PySem.W.Frag} {a : Addr} {xs : List V} {g : TG} {tt : TT} {tk tv : TE} {vs : List Nat} {σ : L2.St} {H1 : Hp} {D : Addr} {Qd : Hp → Prop} (Pv : Nat → Hp → Prop) (h0 : Pv 0 (L2.upd H1 D (.dK [])))
    (hl : ∀ i H, i ≤ xs.length → Pv i H → SqL K H a xs)
    (hs : ∀ i x H, xs[i]? = some x → Pv i H → g x (wipe σ vs) H fun σ2 H2 => wipe σ2 vs = wipe σ vs ∧ tt σ2 H2 fun b H3 =>
      if b = true then tk σ2 H3 fun y H4 => tv σ2 H4 fun z H5 => ∃ kvs k, y = kV k ∧ H5 D = some (.dK kvs) ∧ kvs.length < sizeLine ∧ Pv (i + 1) (L2.upd H5 D (.dK (putK kvs k z))) else Pv (i + 1) H3)
    (hd : ∀ H, Pv xs.length H → Qd H) :
    ∃ W : Nat → Nat → Hp → Prop, (∃ m, W 0 m (L2.upd H1 D (.dK []))) ∧ ∀ i m H, W i m H →
      ((Itl K a).stop i H ∧ Qd H) ∨ ((Itl K a).go i H ∧ ∃ Nx : Hp → Prop, (∀ H', Nx H' → ∃ m', m' < m ∧ W (i + 1) m' H') ∧ ∀ x H', (Itl K a).yld i H x H' → g x (wipe σ vs) H' fun σ2 H2 => wipe σ2 vs = wipe σ vs ∧ tt σ2 H2 fun b H3 =>
        if b = true then tk σ2 H3 fun y H4 => tv σ2 H4 fun z H5 => ∃ kvs k, y = kV k ∧ H5 D = some (.dK kvs) ∧ kvs.length < sizeLine ∧ Nx (L2.upd H5 D (.dK (putK kvs k z))) else Nx H3) := by
  refine ⟨fun i m H => m + i = xs.length ∧ Pv i H, ⟨xs.length, rfl, h0⟩, fun i m H w => ?_⟩
  obtain ⟨hm, hp⟩ := w
  have hq := hl i H (by omega) hp
  rcases Nat.lt_or_ge i xs.length with hlt | hge
  · refine .inr ⟨⟨xs, xs[i], hq, by simp [hlt]⟩, Pv (i + 1), fun H' hn => ⟨m - 1, by omega, by omega, hn⟩, fun x H' y => ?_⟩
    obtain ⟨e, y⟩ := y
    subst e
    exact hs i x _ (y xs hq) hp
  · obtain rfl : i = xs.length := by omega
    exact .inl ⟨⟨xs, hq, Nat.le_refl _⟩, hd H hp⟩
/-- sorted of a dict with text keys, by a name -/
def rSortN : List V → Hp → VK → Prop := fun xs H Q => ∃ (a : Addr) (kvs : List (Key × V)) (ks : List Str), xs = [.ref a] ∧ Rd H a (.dK kvs) ∧ kvs.map (·.1) = ks.map Sum.inr ∧ ks.length < 64 ∧ ∀ ys p, ys.Perm ks → sortedS ys = true → H p = none → Q (.ref p) (L2.upd H p (.lst (ys.map V.str)))
theorem cr_sortN {X : Cx} (hc : X.calm = true) : CallR X (.builtin "sorted") rSortN := call_sortedD hc
/-- {k: v for k in sorted(d) if ..} -/
theorem dc_sorted {K : PySem.W.Frag} {j : Nat} {d : Addr} {kvs : List (Key × V)} {ks : List Str} {g : TG} {tt : TT} {tk tv : TE} {vs : List Nat} {σ : L2.St} {H : Hp} {Q : VK} (hv : σ[j]? = some (some (.ref d))) (hd : H d = some (.dK kvs))
    (hk : kvs.map (·.1) = ks.map Sum.inr) (hn : ks.length < 64)
    (h : ∀ (ys : List Str) (s D : Addr) (H1 : Hp), ys.Perm ks → sortedS ys = true → Ext H H1 → H1 s = some (.lst (ys.map V.str)) → H1 D = none →
      ∃ Pv : Nat → Hp → Prop, Pv 0 (L2.upd H1 D (.dK [])) ∧ (∀ i H', Pv i H' → H' s = some (.lst (ys.map V.str))) ∧
        (∀ i x H', ys[i]? = some x → Pv i H' → g (.str x) (wipe σ vs) H' fun σ2 H2 => wipe σ2 vs = wipe σ vs ∧ tt σ2 H2 fun b H3 =>
          if b = true then tk σ2 H3 fun y H4 => tv σ2 H4 fun z H5 => ∃ kvs k, y = kV k ∧ H5 D = some (.dK kvs) ∧ kvs.length < sizeLine ∧ Pv (i + 1) (L2.upd H5 D (.dK (putK kvs k z))) else Pv (i + 1) H3) ∧
        (∀ H', Pv ys.length H' → Q (.ref D) H')) :
    tDc (iList K (tCB rSortN (tCons (tVar j) tNil))) g tt tk tv vs σ H Q := by
  refine ⟨_, hv, d, kvs, ks, rfl, .inl hd, hk, hn, fun ys s hp hs hsn => ⟨s, rfl, ⟨_, ofL upd_same⟩, fun D hD => ?_⟩⟩
  obtain ⟨Pv, h0, h1, h2, h3⟩ := h ys s D _ hp hs (Ext.upd hsn) upd_same hD
  refine dcW_list (a := s) (xs := ys.map V.str) Pv h0 (fun i H' _ p => ofL (h1 i H' p)) (fun i x H' hx p => ?_) (fun H' p => h3 H' (by rw [List.length_map] at p; exact p))
  rw [List.getElem?_map] at hx
  cases e : ys[i]? with
  | none => rw [e] at hx; cases hx
  | some y =>
    rw [e] at hx
    obtain rfl : x = V.str y := (Option.some.inj hx).symm
    exact h2 i y H' e p
end Own

set_option Elab.async false
set_option maxRecDepth 100000
set_option maxHeartbeats 4000000
set_option linter.all false
/-! Defs that are run where nothing is being shown (no repr of a list or tuple is under way): repr of data is then known. -/
namespace Own
open PySem PySem.Spec PyProof.Rows L2
/-- a promise that is kept where no repr is under way -/
structure FnG (P : Program) (w : World) (K : PySem.W.Frag) (mg : Str → Option Value) (base : Heap) (CX : CXT) (k : Nat) (f : Addr) (fd : FuncData) (ps : List Str) (sp : Sp) : Prop where
  len : ∀ vs H Q E, sp vs H Q E → vs.length = ps.length
  run : ∀ (A : Around) (outer : List Env) (s : Shared) (H : Hp) (args : Args) (us : List Value) (vs : List V) (Q : VK) (E : XK), A.guards = some [] → Room k A → Env0 P w K mg base A outer s H →
    BindsTo s fd args (ps.zip us) → Vals vs us → sp vs H Q E → codeAny (model P w) A (.call (.ref f) args) (CR CX outer P w H s Q E) s
section
variable {P : Program} {w : World} {K : PySem.W.Frag} {mg : Str → Option Value} {base : Heap} {CX : CXT} {k : Nat} {f : Addr} {fd : FuncData} {ps : List Str} {sp : Sp}
theorem FnG.of (F : FnOk P w K mg base CX k f fd ps sp) : FnG P w K mg base CX k f fd ps sp := ⟨F.len, fun A outer s H args us vs Q E _ => F.run A outer s H args us vs Q E⟩
/-- a def by its body, as fn_of: no repr is under way in the body either -/
theorem fn_ofG {name qual : Str} {params : Arguments} {body : List Stmt} {scope : Scope} {dV kV doc pm cdv ct oc : Value} {an od : Option Addr} {osl : Array (Option Value)} {N : List Str}
    (lk : K.lookup f = some ⟨oc, od, .func (PySem.W.fnOf name qual params body scope dV kV doc pm an cdv ct), osl⟩) (hcd : PySem.W.codeIn K cdv qual = true) (S : FnScope N ps scope) (len : ∀ vs H Q E, sp vs H Q E → vs.length = ps.length)
    (hbody : ∀ (A : Around) (outer : List Env) (s : Shared) (H : Hp) (vs : List V) (Q : VK) (E : XK), A.guards = some [] → Room k (A.deeper (envOfC qual scope s.heap.objs.size f cdv)) → sp vs H Q E →
      ∃ t, PSs (cxOf CX P w K mg base N qual scope f cdv A outer s H E) body t ∧ t { nx := fun _ H' => Q .non H', rt := Q } (L2.start N vs) H) :
    FnG P w K mg base CX (k + 1) f (PySem.W.fnOf name qual params body scope dV kV doc pm an cdv ct) ps sp := by
  constructor
  · exact len
  · intro A outer s H args us vs Q E hg hr e0 hb r hsp
    have hl : vs.length = ps.length := len vs H Q E hsp
    have sees : ∀ b o, base.get? b = some o → s.heap.get? b = some o := fun b o e => (e0.bs b o e).1
    have KX : K.In s.heap := e0.mod.kin.keeps sees
    have par : ∀ y ∈ ps.zip us, scope.names.lookup y.1 = some .local ∨ (scope.names.lookup y.1 = some .cell ∧ ((cellsFrom (s.heap.objs.size + 1) scope.names []).lookup y.1).isSome = true) := by
      rintro ⟨n, v⟩ hy
      have hn : n ∈ ps := (List.of_mem_zip hy).1
      cases S.par n hn with
      | inl q => exact .inl q
      | inr q => exact .inr ⟨q, PySem.W.cellsFrom_some _ _ _ (.inl q)⟩
    refine codeAny_call_function hr.depth (KX f _ lk) rfl S.co S.gen rfl (PySem.W.codeRec_of KX hcd) ?_
    refine hb _ _ _ _ (wpAny_newFunctionEnv_cells S.kind par ?_)
    intro env he s1 x
    subst he
    refine ⟨(e0.mod.nolimit.keeps sees).keeps x.toInCall.keep, codeAny_func ?_⟩
    obtain ⟨t, ht, hq⟩ := hbody A outer s H vs Q E hg (hr.deeper _) hsp
    refine wpAny_mono (ht.run [] s1 (L2.start N vs) H _ (inv_start S hr.hd e0 hl r x) hq) ?_ (fun e s' z => z)
    intro fl s' hs
    cases fl with
    | brk => exact hs.elim fun _ z => z.elim fun _ z => z.2.elim
    | cont => exact hs.elim fun _ z => z.elim fun _ z => z.2.elim
    | next =>
      obtain ⟨σ', H', J, q⟩ := hs
      exact ⟨V.non, H', J.os, J.bare, J.base, J.hok, rfl, q⟩
    | ret u =>
      obtain ⟨v, σ', H', J, rv, q⟩ := hs
      exact ⟨v, H', J.os, J.bare, J.base, J.hok, rv, q⟩
/-- the same for a def of the text that lets nothing out -/
theorem okG {x qual : Str} {st : Stmt} {N : List Str} (F : Fun K x qual st f fd) (S : FnScope N ps (defScope st)) (len : ∀ vs H Q E, sp vs H Q E → vs.length = ps.length)
    (hbody : ∀ (cdv : Value) (A : Around) (outer : List Env) (s : Shared) (H : Hp) (vs : List V) (Q : VK) (E : XK), A.guards = some [] → Room k (A.deeper (envOfC qual (defScope st) s.heap.objs.size f cdv)) → sp vs H Q E →
      ∃ t, PSs (cxOf CX0 P w K mg base N qual (defScope st) f cdv A outer s H E).nox (defBody st) t ∧ t { nx := fun _ H' => Q .non H', rt := Q } (L2.start N vs) H) : FnG P w K mg base CX0 (k + 1) f fd ps sp := by
  obtain ⟨oc, od, kV, doc, pm, an, cdv, ct, osl, rfl, lk, hcd⟩ := F.ex
  refine fn_ofG lk hcd S len fun A outer s H vs Q E hg hr hsp => ?_
  obtain ⟨t, h, q⟩ := hbody cdv A outer s H vs Q E hg hr hsp
  exact ⟨t, h.nox, q⟩
end
section
variable {X : Cx} {CX : CXT} {k : Nat} {f : Addr} {fd : FuncData} {ps : List Str} {sp : Sp} {E : XK} {x : Str} {p pos : Pos} {e : Expr} {es : List Expr} {t : TA}
/-- f(e, ..) of such a def, from a body in which no repr is under way -/
theorem pe_callG (F : FnG X.prog X.w X.K X.mg X.base CX k f fd ps sp) (hgd : X.A.guards = some []) (hr : Room k X.A) (hg : Gl X x) (hm : X.mg x = some (.ref f)) (hk : PySem.W.keepIn X.K (.ref f) = true) (hb : Binds X.K fd ps []) (hx : Passes CX X E)
    (ha : PA X (e :: es) t) (hdb : (x == ("__debug__" : Str)) = false := by decide) (he : starEach (e :: es) X.env = (false, eval e X.env) :: starEach es X.env := by rfl) (hpl : (backTo pos (starEach es X.env)).any (·.1) = false := by rfl) :
    PE X (.Call (.Name x p) (e :: es) [] pos) (tCall sp [] E t) := by
  constructor
  intro pins s σ H Q I h
  have args := ha.run pos pins s σ H _ I h
  refine wpAny_Call_Name_kw (ld_glob I hg hm ?_ hdb)
  refine PySem.W.callWith_K (h₀ := X.base) I.ok.mod.kin hk (thn args ?_) he hpl
  rintro us s1 ⟨vs, H1, I1, r, q⟩
  refine ⟨I1.kIn, ?_⟩
  rw [List.append_nil] at q
  have hl : (us ++ []).length = ps.length := by rw [List.append_nil, ← r.length]; exact F.len _ _ _ _ q
  have hb2 := hb s1 us I1.kIn hl
  rw [List.append_nil] at hb2
  refine wpAny_call (codeAny_mono (F.run X.A X.stack s1 H1 ⟨us, []⟩ us vs Q E hgd hr I1.env0 hb2 r q) ?_)
  intro z s' hq
  match z, hq with
  | .error e, hq => exact hx pins σ H1 s1 e s' I1 hq
  | .ok (.ret u), hq => exact I1.after hq
  | .ok .next, hq => exact hq.elim
  | .ok .brk, hq => exact hq.elim
  | .ok .cont, hq => exact hq.elim
/-- repr of data: lists, tuples, ints, texts -/
def rReprD (K : PySem.W.Frag) : List V → Hp → VK → Prop := fun vs H Q => ∃ x d, vs = [x] ∧ Dp K H x d ∧ d.showable = true ∧ d.hasDict = false ∧ d.depth ≤ 32 ∧ d.shown.length ≤ sizeLine ∧ Q (.str d.shown) H
end

section
variable {X : Cx}
theorem call_reprD (hgd : X.A.guards = some []) (hr : Room 1 X.A) : CallR X (.builtin "repr") (rReprD X.K) := by
  intro pins s σ H xs us Q I r h
  obtain ⟨x, d, rfl, hd, h1, h2, h3, h4, q⟩ := h
  obtain ⟨u, rfl, ru⟩ := vals1 r
  obtain ⟨as, rd⟩ := Dp.reads I d x u hd ru
  have hu : X.A.units + (d.depth + 1) < cLine := by
    have := hr.units
    omega
  cases hd with
  | non =>
    cases (show u = Value.none from ru)
    exact PySem.P.repr_of_none ⟨.str _, H, I.tok _, ⟨_, rfl⟩, q⟩
  | bl b =>
    cases (show u = Value.bool b from ru)
    exact PySem.P.repr_of_bool ⟨.str _, H, I.tok _, ⟨_, rfl⟩, q⟩
  | int i =>
    obtain ⟨t, rfl⟩ := (show ∃ t, u = Value.int i t from ru)
    exact PySem.P.repr_of_int (of_decide_eq_true h1) ⟨.str _, H, I.tok _, ⟨_, rfl⟩, q⟩
  | str y =>
    obtain ⟨t, rfl⟩ := (show ∃ t, u = Value.str y t from ru)
    exact PySem.P.repr_of_str ⟨.str _, H, I.tok _, ⟨_, rfl⟩, q⟩ h4
  | @lst a xs ds hs ha =>
    cases (show u = Value.ref a from ru)
    exact PySem.repr_of_reads' rd h1 (PyData.noDict_hsm h2) hgd hu (fun _ _ e => e) (fun h' v tk hk => ⟨.str _, H, I.kept hk, ⟨_, rfl⟩, q⟩) h4
  | @tup a xs ds hs ha =>
    cases (show u = Value.ref a from ru)
    exact PySem.repr_of_reads' rd h1 (PyData.noDict_hsm h2) hgd hu (fun _ _ e => e) (fun h' v tk hk => ⟨.str _, H, I.kept hk, ⟨_, rfl⟩, q⟩) h4
end
/-- data that holds no dict is no dict -/
theorem ty_data {K : PySem.W.Frag} {H : Hp} {y : V} {d : PyData} (h : Dp K H y d) : ∃ n, TyX K H y (.type n) ∧ kitB n "dict" = some false := by
  cases h with
  | non => exact ⟨_, .base .non, by decide +kernel⟩
  | bl b => exact ⟨_, .base (.bl b), by decide +kernel⟩
  | int i => exact ⟨_, .base (.int i), by decide +kernel⟩
  | str x => exact ⟨_, .base (.str x), by decide +kernel⟩
  | @lst a xs ds hs _ =>
    rcases hs with (hs | ⟨o, hs⟩) | hs
    · exact ⟨_, .base (.lst hs), by decide +kernel⟩
    · exact ⟨_, .base (.frz hs), by decide +kernel⟩
    · obtain ⟨o, its, n, hk, hc, _⟩ := hs
      exact ⟨_, .kList hk hc, by decide +kernel⟩
  | @tup a xs ds hs _ =>
    rcases hs with (hs | ⟨o, hs⟩) | hs
    · exact ⟨_, .base (.tup hs), by decide +kernel⟩
    · exact ⟨_, .fTuple hs, by decide +kernel⟩
    · obtain ⟨o, its, n, hk, hc, _⟩ := hs
      exact ⟨_, .kTuple hk hc, by decide +kernel⟩
/-! the law's own call: nothing is being shown when it begins -/
theorem ints_vals {vs : List Value} {ns : List Int} (h : IntsAre vs ns) : Vals (ns.map V.int) vs := vals_ints h
theorem law_runG {P : Program} {w : World} {K : PySem.W.Frag} {mg mb : Str → Option Value} {CX : CXT} {k : Nat} {fa a : Addr} {fd : FuncData} {x : Str} {sp : Sp} {s₁ : Shared} {vs : List Value} {H : Hp}
    (hO : Only H) (hA : ∀ b, H b ≠ none → b = a) (hKa : H a ≠ none → K.lookup a = none) (hok : HOk P w H s₁.heap)
    (KX : K.In s₁.heap) (hns : s₁.heap.Ns mainGlobals mg) (hb : s₁.heap.Ns builtinsNs mb) (hbb : ∀ x : Str, x ≠ "__name__" → mb x = bootBuiltins x) (hlim : s₁.heap.NoLimit) (hg : s₁.gens = #[])
    (ha : s₁.heap.get? a = some { cls := .type "list", data := .seq vs.toArray }) (hr : Room k callerA)
    (F : ∀ base : Heap, K.In base → base.Ns mainGlobals mg → FnG P w K mg base CX k fa fd [x] sp) (hbind : ∀ (s : Shared) (u : Value), BindsTo s fd ⟨[u], []⟩ [(x, u)])
    (hsp : sp [.ref a] H (fun v _ => v = .bl true) fun _ _ _ => False) (hCX : ∀ e s', CX [] H s₁ (fun _ _ _ => False) e s' → False) :
    codeAny (model P w) callerA (.call (.ref fa) ⟨[.ref a], []⟩) (fun r s' => r = .ok (.ret (.bool true)) ∧ OldK s₁.heap s'.heap ∧ s'.os = s₁.os ∧ AllBare s'.gens) s₁ := by
  have free : ∀ b, b ≠ a → H b = none := fun b hne => Classical.byContradiction fun z => hne (hA b z)
  have notA : ∀ {o : Obj} {es : Array DictEntry} {ep : Nat} {b : Addr}, s₁.heap.get? b = some o → o.data = .dict es ep → b ≠ a := by
    intro o es ep b e d z
    rw [z, ha] at e
    rw [← Option.some.inj e] at d
    cases d
  have inBase : ∀ {b : Addr} {m : Str → Option Value}, s₁.heap.Ns b m → (hidT s₁.heap H).Ns b m := by
    rintro b m ⟨o, es, ep, e, d, r⟩
    exact ⟨o, es, ep, hidT_get e (free b (notA e d)), d, r⟩
  have KB : K.In (hidT s₁.heap H) := by
    intro b o e
    refine hidT_get (KX b o e) (Classical.byContradiction fun z => ?_)
    have := hKa ((hA b z) ▸ z)
    rw [← hA b z, e] at this
    cases this
  obtain ⟨mc, l1, l2⟩ := hlim
  have M : Mod K mg (hidT s₁.heap H) := ⟨KB, inBase hns, ⟨mb, inBase hb, hbb⟩, ⟨mc, inBase l1, l2⟩⟩
  have none_in : ∀ b, b ∉ ([] : List Addr) := fun b => List.not_mem_nil
  have e0 : Env0 P w K mg (hidT s₁.heap H) callerA [] s₁ H := ⟨rfl, M, fun b o e => of_hidT e, Nat.le_of_eq (hidT_size _ _), trivial, fun b z => absurd z (none_in b), hok, .of_eq hg⟩
  have run := (F _ KB (inBase hns)).run callerA [] s₁ H ⟨[.ref a], []⟩ [.ref a] [.ref a] _ _ rfl hr e0 (hbind s₁ (.ref a)) (.cons rfl .nil) hsp
  refine codeAny_mono run ?_
  intro r s' h
  match r, h with
  | .error e, h => exact (hCX e s' h).elim
  | .ok .next, h => exact h.elim
  | .ok .brk, h => exact h.elim
  | .ok .cont, h => exact h.elim
  | .ok (.ret u), h =>
    obtain ⟨v, H', os, bare, un, hok', rv, rfl⟩ := h
    obtain rfl : u = Value.bool true := rv
    refine ⟨rfl, OldK.of_keep ?_, os, bare⟩
    intro b o e
    cases q : H b with
    | none => exact un.keep b o e q (none_in b) (none_in b)
    | some y =>
      rcases hO b with z | ⟨ob, xs, z⟩
      · rw [q] at z
        cases z
      · have k1 := (hok b _ z).1
        have k2 := (hok' b _ (un.frzs b ob _ z)).1
        rw [e] at k1
        rw [Option.some.inj k1]
        exact k2
theorem law_callG {P : Program} {w : World} {K : PySem.W.Frag} {mg mb : Str → Option Value} {CX : CXT} {k : Nat} {fa a : Addr} {fd : FuncData} {x : Str} {sp : Sp} {s₁ : Shared} {vs : List Value} {ns : List Int}
    (KX : K.In s₁.heap) (hns : s₁.heap.Ns mainGlobals mg) (hb : s₁.heap.Ns builtinsNs mb) (hbb : ∀ x : Str, x ≠ "__name__" → mb x = bootBuiltins x) (hlim : s₁.heap.NoLimit) (hg : s₁.gens = #[])
    (ha : s₁.heap.get? a = some { cls := .type "list", data := .seq vs.toArray }) (hi : IntsAre vs ns) (hl : ns.length ≤ sizeLine) (hr : Room k callerA)
    (F : ∀ base : Heap, K.In base → base.Ns mainGlobals mg → FnG P w K mg base CX k fa fd [x] sp) (hbind : ∀ (s : Shared) (u : Value), BindsTo s fd ⟨[u], []⟩ [(x, u)])
    (hsp : ∀ H : Hp, Only H → SqL K H a (ns.map V.int) → sp [.ref a] H (fun v _ => v = .bl true) fun _ _ _ => False) (hCX : ∀ H e s', CX [] H s₁ (fun _ _ _ => False) e s' → False) :
    codeAny (model P w) callerA (.call (.ref fa) ⟨[.ref a], []⟩) (fun r s' => r = .ok (.ret (.bool true)) ∧ OldK s₁.heap s'.heap ∧ s'.os = s₁.os ∧ AllBare s'.gens) s₁ := by
  have rv := ints_vals hi
  have lv : vs.length = ns.length := hi.length
  cases hk : K.lookup a with
  | some o =>
    have e := KX a o hk
    rw [ha] at e
    obtain rfl := Option.some.inj e
    have hO : Only (fun _ => none) := fun _ => .inl rfl
    have hok : HOk P w (fun _ => none) s₁.heap := fun b u z => by cases (show (none : Option HO) = some u from z)
    exact law_runG hO (fun b z => absurd rfl z) (fun z => absurd rfl z) hok KX hns hb hbb hlim hg ha hr F hbind
      (hsp _ hO (.inr ⟨_, vs.toArray, _, hk, rfl, rfl, rfl, by rw [List.size_toArray, lv]; exact hl, by simpa using rv⟩)) (hCX _)
  | none =>
    let H0 : Hp := fun b => if b = a then some (.frz { cls := .type "list", data := .seq vs.toArray } (.lst (ns.map V.int))) else none
    have at_a : H0 a = some (.frz { cls := .type "list", data := .seq vs.toArray } (.lst (ns.map V.int))) := if_pos rfl
    have off : ∀ b, b ≠ a → H0 b = none := fun b hne => if_neg hne
    have hO : Only H0 := fun b => by
      by_cases e : b = a
      · exact .inr ⟨_, _, e ▸ at_a⟩
      · exact .inl (off b e)
    have hA : ∀ b, H0 b ≠ none → b = a := fun b z => Classical.byContradiction fun e => z (off b e)
    have hok : HOk P w H0 s₁.heap := fun b u z => by
      have e : b = a := hA b (by rw [z]; simp)
      subst e
      rw [at_a] at z
      obtain rfl := Option.some.inj z
      exact ⟨ha, by rw [List.length_map]; exact hl, vs, _, rv, ha⟩
    exact law_runG hO hA (fun _ => hk) hok KX hns hb hbb hlim hg ha hr F hbind (hsp H0 hO (.inl (.inr ⟨_, at_a⟩))) (hCX _)
theorem walk_ofG {l : PySem.W.OpenLaw} {n k : Nat} {q : Program} {loose : List Str} {XP : (Str → Option Value) → Heap → Prop} {YP : World → Heap → Prop} {d : DefRec} {K : Params → PySem.W.Frag} {CX : World → CXT} {sp : World → Sp} {x : Str}
    (hn : l.most = some n) (hn2 : n ≤ sizeLine) (hdf : d.params.defaults = []) (hr : Room k callerA) (hY : ∀ (w : World) (h : Heap), YP w h → (K w.params).In h)
    (F : ∀ (w : World) (mg : Str → Option Value) (fa : Addr) (h : Heap), (K w.params).In h → h.Ns mainGlobals mg → mg d.name = some (.ref fa) →
      ∃ fd : FuncData, (∀ (s : Shared) (u : Value), BindsTo s fd ⟨[u], []⟩ [(x, u)]) ∧ ∀ base : Heap, (K w.params).In base → base.Ns mainGlobals mg → FnG l.prog w (K w.params) mg base (CX w) k fa fd [x] (sp w))
    (hsp : ∀ (w : World) (H : Hp) (a : Addr) (ns : List Int), ns.length ≤ n → Only H → SqL (K w.params) H a (ns.map V.int) → sp w [.ref a] H (fun v _ => v = .bl true) fun _ _ _ => False)
    (hCX : ∀ (w : World) (H : Hp) (s : Shared) (e : Value) (s' : Shared), CX w [] H s (fun _ _ _ => False) e s' → False) :
    PySem.W.WalkO q loose XP YP l.row.toRowW d [] (fun f vs => PySem.call f vs) := by
  refine Att.attach_call hn hdf ?_
  intro w s₀ s₁ mg mb fa o pm cd doc a vs ns G Y ho hd hcd hmg hobj hints hlen hg
  have KX := hY w _ Y
  obtain ⟨fd, hb, hF⟩ := F w mg fa _ KX G.T.g hmg
  exact law_callG KX G.T.g G.T.b G.T.builtins G.T.nolimit hg hobj hints (Nat.le_trans hlen hn2) hr hF hb (fun H hO hS => hsp w H a ns hlen hO hS) (fun H e s' => hCX w H s₁ e s')
end Own

set_option Elab.async false
set_option maxRecDepth 100000
set_option maxHeartbeats 4000000
set_option linter.all false
/-! comprehensions by walks; names -/
namespace Own
open PySem PySem.Spec PyProof.Rows L2
theorem tLc_i {wi : TI} {g : TG} {tt : TT} {te : TE} {vs : List Nat} {σ : L2.St} {H H1 : Hp} {Q : VK} {J : It} {n : Nat} {G : Hp → Prop} {Y : Nat → Hp → V → Hp → Prop} (hwi : ∀ R : It → Hp → Prop, R J H1 → wi σ H R) (w : Walk J n G Y)
    (h : ∀ D, H1 D = none → ∃ Pv : Nat → Hp → Prop, Pv 0 (L2.upd H1 D (.lst [])) ∧ (∀ i H, i ≤ n → Pv i H → G H) ∧
      (∀ i x H H', i < n → Pv i H → Y i H x H' → g x (wipe σ vs) H' fun σ2 H2 => wipe σ2 vs = wipe σ vs ∧ tt σ2 H2 fun b H3 =>
        if b = true then te σ2 H3 fun y H4 => ∃ acc, H4 D = some (.lst acc) ∧ acc.length < sizeLine ∧ Pv (i + 1) (L2.upd H4 D (.lst (acc ++ [y]))) else Pv (i + 1) H3) ∧
      (∀ H, Pv n H → Q (.ref D) H)) : tLc wi g tt te vs σ H Q :=
  hwi _ fun D hD => by
    obtain ⟨Pv, h0, hG, hs, hd⟩ := h D hD
    exact lc_it w Pv h0 hG hs hd
theorem tFor_i {wi : TI} {g : TG} {tb : TS} {D : Ends} {σ : L2.St} {H H1 : Hp} {J : It} {n : Nat} {G : Hp → Prop} {Y : Nat → Hp → V → Hp → Prop} (hwi : ∀ R : It → Hp → Prop, R J H1 → wi σ H R) (w : Walk J n G Y)
    (Pv : Nat → L2.St → Hp → Prop) (h0 : Pv 0 σ H1) (hG : ∀ i σ H, i ≤ n → Pv i σ H → G H)
    (hs : ∀ i x σ H H', i < n → Pv i σ H → Y i H x H' → g x σ H' fun σ2 H2 => tb { D with nx := Pv (i + 1), ct := Pv (i + 1), bk := D.nx } σ2 H2) (hd : ∀ σ H, Pv n σ H → D.nx σ H) : tFor wi g tb D σ H :=
  hwi _ (for_it w Pv h0 hG hs hd)
/-! ### texts of small letters -/
def Low (c : Nat) : Prop := 97 ≤ c ∧ c ≤ 122
/-- a text of n letters a to z -/
structure Let (z : Str) (n : Nat) : Prop where
  len : z.length = n
  low : ∀ c ∈ z.cps.toList, Low c
theorem len_list (z : Str) : z.length = z.cps.toList.length := by simp [Str.length]
theorem Let.app {x y : Str} {n m : Nat} (a : Let x n) (b : Let y m) : Let (x ++ y) (n + m) := by
  refine ⟨?_, fun c hc => ?_⟩
  · rw [strLen_append, a.len, b.len]
  · rw [Str.cps_append, Array.toList_append] at hc
    rcases List.mem_append.mp hc with h | h
    · exact a.low c h
    · exact b.low c h
theorem Let.one {c : Nat} (h : Low c) : Let ⟨#[c]⟩ 1 := ⟨rfl, fun d hd => by
  have : d = c := by simpa using hd
  exact this ▸ h⟩
theorem Let.small {z : Str} {n : Nat} (a : Let z n) : Small z n := ⟨Nat.le_of_eq a.len, fun c hc => by have := a.low c hc; unfold Low at this; omega⟩
theorem Let.cut {z : Str} {n : Nat} (a : Let z n) (k : Nat) : Let (cutS z none (some (k : Int))) (min k n) ∧ Let (cutS z (some (k : Int)) none) (n - min k n) := by
  have e : z.cps.toList.length = n := by rw [← len_list]; exact a.len
  refine ⟨⟨?_, fun c hc => ?_⟩, ⟨?_, fun c hc => ?_⟩⟩
  · rw [len_list]
    show (((z.cps.toList.drop 0).take (HT.sIx z.length z.length (some (k : Int)) - 0)).toArray.toList).length = _
    rw [HT.sIx_nat, a.len, List.drop_zero]
    simp only [List.length_take, e]
    omega
  · unfold cutS at hc
    exact a.low c (List.mem_of_mem_drop (List.mem_of_mem_take hc))
  · rw [len_list]
    show (((z.cps.toList.drop (HT.sIx z.length 0 (some (k : Int)))).take (z.length - HT.sIx z.length 0 (some (k : Int)))).toArray.toList).length = _
    rw [HT.sIx_nat, a.len]
    simp only [List.length_take, List.length_drop, e]
    omega
  · unfold cutS at hc
    exact a.low c (List.mem_of_mem_drop (List.mem_of_mem_take hc))
/-- the twenty-six letters -/
abbrev abc : Str := Str.ofString "abcdefghijklmnopqrstuvwxyz"
theorem abc_list : abc.cps.toList = List.range' 97 26 := by decide +kernel
theorem abc_at {k : Int} (h0 : 0 ≤ k) (h1 : k < 26) : atI abc.cps.toList k = some (97 + k.toNat) ∧ Low (97 + k.toNat) := by
  obtain ⟨v, e1, e2⟩ := atI_lt (xs := abc.cps.toList) h0 (by rw [abc_list, List.length_range']; omega)
  rw [abc_list, List.getElem?_range' (by omega)] at e1
  refine ⟨?_, by unfold Low; omega⟩
  rw [e2, ← e1, Nat.one_mul]
theorem Let.nil : Let Str.empty 0 := ⟨rfl, fun c hc => by simp [Str.empty] at hc⟩
theorem join_let' : ∀ (ys : List Str), (∀ y ∈ ys, Let y 1) → Let (Str.join Str.empty ys) ys.length
  | [], _ => Let.nil
  | [x], h => h x List.mem_cons_self
  | x :: z :: r, h => by
    have ih := join_let' (z :: r) fun y hy => h y (List.mem_cons_of_mem _ hy)
    have hx := h x List.mem_cons_self
    have e : Str.join Str.empty (x :: z :: r) = x ++ Str.empty ++ Str.join Str.empty (z :: r) := rfl
    rw [e]
    have := (hx.app Let.nil).app ih
    rw [show (x :: z :: r).length = 1 + 0 + (z :: r).length by simp only [List.length_cons]; omega]
    exact this
theorem join_let (ys : List Str) (h : ∀ y ∈ ys, Let y 1) : Let (PySem.Txt.join Str.empty ys) ys.length := by
  rw [TL.join_eq]
  exact join_let' ys h
/-- sep.join(list of texts), by a name -/
def rJoinN (K : PySem.W.Frag) : V → List V → Hp → VK → Prop := fun x xs H Q => ∃ a p, ∃ ys : List Str, x = .str a ∧ xs = [.ref p] ∧ (SqL K H p (ys.map V.str) ∨ SqT K H p (ys.map V.str)) ∧ (ys.map (·.length)).sum + ys.length * a.length ≤ 16777216 ∧ Q (.str (PySem.Txt.join a ys)) H
theorem pe_joinN {X : Cx} {o e : Expr} {to te : TE} {apos pos : Pos} (ho : PE X o to) (he : PE X e te) (hs : starEach [e] X.env = [(false, eval e X.env)] := by rfl) (hbase : attributeBase o "join" X.env (eval o X.env) = eval o X.env := by rfl) (hline : (apos.endLine == pos.line) = true := by rfl) :
    PE X (.Call (.Attribute o "join" apos) [e] [] pos) (tM1 (rJoinN X.K) to te) := pe_join ho he hs hbase hline
/-! rules within a comprehension's block: the written part by its own name -/
section
variable {X : Cx} {K : PySem.W.Frag}
theorem inK (h : X.K = K) : OpR X (compareOp .In) (rIn K false) := h ▸ op_in_seq
theorem notInK (h : X.K = K) : OpR X (compareOp .NotIn) (rIn K true) := h ▸ op_notIn_seq
theorem ixLK (h : X.K = K) : IxR X (rIxL K) := h ▸ ix_list
theorem ixTK (h : X.K = K) : IxR X (rIxT K) := h ▸ ix_tup
theorem slLK (h : X.K = K) : SlR X (rSlL K) := h ▸ sl_list
theorem isiK (h : X.K = K) : CallR X (.builtin "isinstance") (rIsi K) := h ▸ call_isi
theorem fldK {e : Expr} {ta : TE} {f : Str} {pos : Pos} (h : X.K = K) (he : PE X e ta) (hb : attributeBase e f X.env (eval e X.env) = eval e X.env) : PE X (.Attribute e f pos) (tFld K ta f) := h ▸ pe_fld he hb
end
/-! a text among texts -/
theorem in_strs {z : Str} {zs : List Str} : inV (.str z) (zs.map V.str) = true ↔ z ∈ zs := by
  unfold inV
  rw [List.any_map, List.any_eq_true]
  constructor
  · rintro ⟨y, hy, e⟩
    have e : eqV (.str y) (.str z) = true := e
    have : y = z := by simpa [eqV] using e
    exact this ▸ hy
  · exact fun h => ⟨z, h, by simp [eqV]⟩
theorem flat_strs (zs : List Str) : (zs.map V.str).all flatV = true := by
  rw [List.all_map, List.all_eq_true]
  exact fun _ _ => rfl
/-- the spare names -/
def cand (c t : Nat) : Str := ⟨#[122, c, 105 + t]⟩
theorem cand_let {c t : Nat} (hc : Low c) (ht : t < 12) : Let (cand c t) 3 := ⟨rfl, fun d hd => by
  have hd : d = 122 ∨ d = c ∨ d = 105 + t := by simpa [cand] using hd
  unfold Low at hc ⊢
  omega⟩
theorem cands_nd (c : Nat) : ((List.range 12).map (cand c)).Nodup := by
  rw [List.nodup_iff_pairwise_ne, List.pairwise_map]
  refine (List.nodup_range (n := 12)).imp ?_
  intro i j hne e
  have : 105 + i = 105 + j := by
    have := congrArg (fun z : Str => z.cps[2]?) e
    simpa [cand] using this
  omega
/-! ### the pigeons -/
theorem nodup_le {α : Type} [DecidableEq α] : ∀ {l m : List α}, l.Nodup → (∀ x ∈ l, x ∈ m) → l.length ≤ m.length
  | [], _, _, _ => Nat.zero_le _
  | x :: l, m, hn, h => by
    have hx : x ∈ m := h x List.mem_cons_self
    have hn' := List.nodup_cons.mp hn
    have ih := nodup_le (l := l) (m := m.erase x) hn'.2 fun y hy => (List.mem_erase_of_ne (fun e : y = x => hn'.1 (e ▸ hy))).mpr (h y (List.mem_cons_of_mem _ hy))
    rw [List.length_erase_of_mem hx] at ih
    have := List.length_pos_of_mem hx
    rw [List.length_cons]
    omega
abbrev tails : Str := Str.ofString "ijklmnopqrst"
theorem tails_size : tails.cps.size = 12 := by decide +kernel
theorem tails_list : tails.cps.toList = List.range' 105 12 := by decide +kernel
theorem tails_at {i c : Nat} (h : tails.cps[i]? = some c) : i < 12 ∧ c = 105 + i := by
  rw [← Array.getElem?_toList, tails_list] at h
  have hi := (List.getElem?_eq_some_iff.mp h).1
  rw [List.length_range'] at hi
  rw [List.getElem?_range' hi] at h
  exact ⟨hi, by have := Option.some.inj h; omega⟩
theorem cand_app (c t : Nat) : (Str.ofString "z" ++ (⟨#[c]⟩ : Str)) ++ (⟨#[t]⟩ : Str) = ⟨#[122, c, t]⟩ := by
  have e : Str.ofString "z" = ⟨#[122]⟩ := by decide +kernel
  rw [e]
  rfl
/-- some spare name is not taken -/
theorem cand_free {zs : List Str} {c : Nat} (h : zs.length < 12) : ¬ ∀ t, t < 12 → cand c t ∈ zs := fun z => by
  have := nodup_le (cands_nd c) fun x hx => by
    obtain ⟨t, ht, e⟩ := List.mem_map.mp hx
    exact e ▸ z t (List.mem_range.mp ht)
  rw [List.length_map, List.length_range] at this
  omega
/-! written tuples -/
def SqtK (K : PySem.W.Frag) (p : Addr) (xs : List V) : Prop := ∃ (o : Obj) (its : Array Value) (n : Nat), K.lookup p = some o ∧ o.cls = .type "tuple" ∧ o.data = .seq its n ∧ its.size ≤ sizeLine ∧ Vals xs its.toList
theorem SqtK.sq {K : PySem.W.Frag} {p : Addr} {xs : List V} (h : SqtK K p xs) (H : Hp) : SqT K H p xs := .inr h
/-! rows of names and numbers -/
/-- a row's cell -/
abbrev rowH (r : Str × Int) : HO := .tup [.str r.1, .int r.2]
def RowsIn (H : Hp) (ts : List Addr) (rs : List (Str × Int)) : Prop := Paired (fun t r => H t = some (rowH r)) ts rs
def RowsAt (H : Hp) (p : Addr) (rs : List (Str × Int)) : Prop := ∃ ts : List Addr, H p = some (.lst (ts.map V.ref)) ∧ RowsIn H ts rs
theorem pmono {α β : Type} {F G : α → β → Prop} (h : ∀ x y, F x y → G x y) : ∀ {xs : List α} {ys : List β}, Paired F xs ys → Paired G xs ys
  | _, _, .nil => .nil
  | _, _, .cons a b => .cons (h _ _ a) (pmono h b)
theorem RowsIn.ext {H H' : Hp} {ts : List Addr} {rs : List (Str × Int)} (h : RowsIn H ts rs) (e : Ext H H') : RowsIn H' ts rs := pmono (fun _ _ z => e _ _ z) h
theorem RowsAt.ext {H H' : Hp} {p : Addr} {rs : List (Str × Int)} (h : RowsAt H p rs) (e : Ext H H') : RowsAt H' p rs := by
  obtain ⟨ts, h1, h2⟩ := h
  exact ⟨ts, e _ _ h1, h2.ext e⟩
/-- another list is written -/
theorem RowsIn.upd {H : Hp} {q : Addr} {xs : List V} {u : HO} {ts : List Addr} {rs : List (Str × Int)} (h : RowsIn H ts rs) (hq : H q = some (.lst xs)) : RowsIn (L2.upd H q u) ts rs := pmono (fun t r z => by
  by_cases e : t = q
  · rw [e, hq] at z
    cases z
  · rw [upd_ne e]
    exact z) h
theorem RowsIn.len {H : Hp} {ts : List Addr} {rs : List (Str × Int)} (h : RowsIn H ts rs) : ts.length = rs.length := Paired.length h
theorem RowsIn.get {H : Hp} : ∀ {ts : List Addr} {rs : List (Str × Int)} {i : Nat} {t : Addr}, RowsIn H ts rs → ts[i]? = some t → ∃ r, rs[i]? = some r ∧ H t = some (rowH r)
  | _, _, _, _, .nil, e => by simp at e
  | _, _, 0, _, .cons a _, e => by
    cases (Option.some.inj e)
    exact ⟨_, rfl, a⟩
  | _, _, i + 1, _, .cons _ b, e => RowsIn.get (i := i) b (by simpa using e)
theorem RowsIn.snoc {H : Hp} {ts : List Addr} {rs : List (Str × Int)} {t : Addr} {r : Str × Int} (h : RowsIn H ts rs) (e : H t = some (rowH r)) : RowsIn H (ts ++ [t]) (rs ++ [r]) := Paired.snoc h e
def rowD (r : Str × Int) : PyData := .tuple [.str r.1, .int r.2]
theorem RowsIn.dp {K : PySem.W.Frag} {H : Hp} : ∀ {ts : List Addr} {rs : List (Str × Int)}, RowsIn H ts rs → DpAll K H (ts.map V.ref) (rs.map rowD)
  | _, _, .nil => .nil
  | _, _, .cons a b => .cons (.tup (ofT a) (.cons (.str _) (.cons (.int _) .nil))) (RowsIn.dp b)
theorem RowsAt.dp {K : PySem.W.Frag} {H : Hp} {p : Addr} {rs : List (Str × Int)} (h : RowsAt H p rs) : Dp K H (.ref p) (.list (rs.map rowD)) := by
  obtain ⟨ts, h1, h2⟩ := h
  exact .lst (ofL h1) h2.dp
end Own

set_option Elab.async false
set_option maxRecDepth 100000
set_option maxHeartbeats 4000000
set_option linter.all false
/-! data that may be held against itself and shown -/
namespace Own
open PySem PySem.Spec PyProof.Rows L2
/-- what _law_same may be asked of -/
structure Neat (d : PyData) : Prop where
  lay : d.canLay0 = true
  show_ : d.showable = true
  deep : d.depth ≤ 32
  len : d.shown.length ≤ sizeLine
theorem Neat.shaped {d : PyData} (h : Neat d) : SeqAt.shaped d = true := by
  unfold SeqAt.shaped
  rw [h.lay, Bool.true_and]
  exact decide_eq_true (Nat.le_trans h.deep (by decide))
theorem Neat.noDict {d : PyData} (h : Neat d) : d.hasDict = false := PyData.hasDict_of_canLay d h.lay
theorem Neat.refl {d : PyData} (h : Neat d) : PyData.eqv d d = true := SeqAt.eqv_refl d h.lay
/-- the same, with a bound of its own for the text and for the depth -/
structure Mild (d : PyData) (n k : Nat) : Prop where
  lay : d.canLay0 = true
  show_ : d.showable = true
  deep : d.depth ≤ k
  len : d.shown.length ≤ n
theorem Mild.neat {d : PyData} {n k : Nat} (h : Mild d n k) (hn : n ≤ 16777216) (hk : k ≤ 32) : Neat d := ⟨h.lay, h.show_, Nat.le_trans h.deep hk, Nat.le_trans h.len hn⟩
theorem Mild.mono {d : PyData} {n k m j : Nat} (h : Mild d n k) (hn : n ≤ m) (hk : k ≤ j) : Mild d m j := ⟨h.lay, h.show_, Nat.le_trans h.deep hk, Nat.le_trans h.len hn⟩
theorem Mild.int {i : Int} (h : i.natAbs.log2 < 1920) : Mild (.int i) 1921 0 := ⟨rfl, decide_eq_true h, Nat.le_refl _, int_text_len h⟩
theorem Mild.str {y : Str} {n : Nat} (a : Small y n) : Mild (.str y) (2 + 10 * n) 0 := by
  refine ⟨?_, rfl, Nat.le_refl _, ?_⟩
  · show PySem.PyData.strOk y = true
    unfold PySem.PyData.strOk
    rw [Array.all_eq_true]
    intro j hj
    have := a.low y.cps[j] (by simp)
    exact decide_eq_true (by omega)
  · show (reprText y).length ≤ _
    have h1 := StrLaws.reprText_len y fun c hc => Nat.lt_of_lt_of_le (a.low c hc) (by decide)
    have h2 := a.len
    omega
theorem textFrom_le : ∀ (ts : List Str) (k : Nat) (acc : Str), (textFrom k acc ts).length ≤ acc.length + (ts.map fun t => t.length + 2).sum
  | [], k, acc => by
    show acc.length ≤ acc.length + 0
    omega
  | t :: r, k, acc => by
    have h := textFrom_le r (k + 1) (acc ++ (if k > 0 then ", " else "" : String) ++ t)
    have e : (acc ++ (if k > 0 then ", " else "" : String) ++ t).length = acc.length + (if k > 0 then 2 else 0) + t.length := by
      rw [strLen_append, strLen_append]
      by_cases hk : k > 0
      · rw [if_pos hk, if_pos hk]
        rfl
      · rw [if_neg hk, if_neg hk]
        rfl
    have e2 : textFrom k acc (t :: r) = textFrom (k + 1) (acc ++ (if k > 0 then ", " else "" : String) ++ t) r := rfl
    rw [e2, List.map_cons, List.sum_cons]
    rw [e] at h
    have hs : (if k > 0 then 2 else 0) ≤ 2 := by split <;> omega
    omega
theorem join_le : ∀ ts : List Str, (Str.join ", " ts).length ≤ (ts.map fun t => t.length + 2).sum
  | [] => Nat.le_of_eq rfl
  | [x] => by
    show x.length ≤ x.length + 2 + 0
    omega
  | x :: y :: r => by
    have h := join_le (y :: r)
    have e : Str.join ", " (x :: y :: r) = x ++ (", " : Str) ++ Str.join ", " (y :: r) := rfl
    have e2 : ((", " : Str)).length = 2 := by decide +kernel
    rw [e, strLen_append, strLen_append, e2, List.map_cons, List.sum_cons]
    omega
theorem sum_le {m : Nat} : ∀ {ts : List Str}, (∀ t ∈ ts, t.length ≤ m) → (ts.map fun t => t.length + 2).sum ≤ ts.length * (m + 2)
  | [], _ => Nat.le_of_eq (Nat.zero_mul _).symm
  | t :: r, h => by
    have h1 := sum_le fun x hx => h x (List.mem_cons_of_mem _ hx)
    have h2 := h t List.mem_cons_self
    rw [List.map_cons, List.sum_cons, List.length_cons, Nat.succ_mul]
    omega
theorem all_mild {n k : Nat} : ∀ {ds : List PyData}, (∀ d ∈ ds, Mild d n k) → PyData.canLayAll0 ds = true ∧ PyData.showableAll ds = true ∧ PyData.depthAll ds ≤ k ∧ (PyData.shownAll ds).length = ds.length ∧ ∀ t ∈ PyData.shownAll ds, t.length ≤ n
  | [], _ => ⟨rfl, rfl, Nat.zero_le _, rfl, fun t ht => absurd ht List.not_mem_nil⟩
  | d :: ds, h => by
    obtain ⟨h1, h2, h3, h4, h5⟩ := all_mild fun x hx => h x (List.mem_cons_of_mem _ hx)
    have hd := h d List.mem_cons_self
    refine ⟨?_, ?_, ?_, ?_, ?_⟩
    · show (d.canLay0 && PyData.canLayAll0 ds) = true
      rw [hd.lay, h1]
      rfl
    · show (d.showable && PyData.showableAll ds) = true
      rw [hd.show_, h2]
      rfl
    · show max d.depth (PyData.depthAll ds) ≤ k
      exact Nat.max_le.mpr ⟨hd.deep, h3⟩
    · show (PyData.shownAll ds).length + 1 = ds.length + 1
      rw [h4]
    · intro t ht
      rcases List.mem_cons.mp (show t ∈ d.shown :: PyData.shownAll ds from ht) with e | e
      · rw [e]
        exact hd.len
      · exact h5 t e
theorem Mild.list {ds : List PyData} {n k m : Nat} (h : ∀ d ∈ ds, Mild d n k) (hm : ds.length ≤ m) : Mild (.list ds) (2 + m * (n + 2)) (k + 1) := by
  obtain ⟨h1, h2, h3, h4, h5⟩ := all_mild h
  refine ⟨h1, h2, Nat.succ_le_succ h3, ?_⟩
  show (listText (PyData.shownAll ds)).length ≤ _
  have a := textFrom_le (PyData.shownAll ds) 0 "["
  have b := sum_le h5
  rw [h4] at b
  have c : ds.length * (n + 2) ≤ m * (n + 2) := Nat.mul_le_mul_right _ hm
  have e : (listText (PyData.shownAll ds)).length = (textFrom 0 "[" (PyData.shownAll ds)).length + 1 := by
    show (textFrom 0 "[" (PyData.shownAll ds) ++ _).length = _
    rw [strLen_append]
    rfl
  have e1 : ((("[" : String) : Str)).length = 1 := by decide +kernel
  rw [e1] at a
  omega
theorem Mild.tuple {ds : List PyData} {n k m : Nat} (h : ∀ d ∈ ds, Mild d n k) (hm : ds.length ≤ m) : Mild (.tuple ds) (3 + m * (n + 2)) (k + 1) := by
  obtain ⟨h1, h2, h3, h4, h5⟩ := all_mild h
  refine ⟨h1, h2, Nat.succ_le_succ h3, ?_⟩
  show (tupleText (PyData.shownAll ds)).length ≤ _
  have a := join_le (PyData.shownAll ds)
  have b := sum_le h5
  rw [h4] at b
  have c : ds.length * (n + 2) ≤ m * (n + 2) := Nat.mul_le_mul_right _ hm
  have e : (tupleText (PyData.shownAll ds)).length ≤ (Str.join ", " (PyData.shownAll ds)).length + 3 := by
    show (("(" : Str) ++ Str.join ", " (PyData.shownAll ds) ++ (if (PyData.shownAll ds).length == 1 then ",)" else ")" : String)).length ≤ _
    rw [strLen_append, strLen_append]
    have e1 : (("(" : Str)).length = 1 := by decide +kernel
    have e2 : ((",)" : String) : Str).length = 2 := by decide +kernel
    have e3 : ((")" : String) : Str).length = 1 := by decide +kernel
    rw [e1]
    split
    · rw [e2]; omega
    · rw [e3]; omega
  omega
/-- a row of a name and a number -/
theorem Mild.row {r : Str × Int} {n : Nat} (a : Small r.1 n) (hn : n ≤ 100) (h : r.2.natAbs.log2 < 1920) : Mild (rowD r) 4000 1 := by
  refine (Mild.tuple (n := 1921) (k := 0) (m := 2) (fun d hd => ?_) (Nat.le_refl _)).mono (by decide) (Nat.le_refl _)
  rcases List.mem_cons.mp hd with e | e
  · rw [e]
    exact (Mild.str a).mono (by omega) (Nat.le_refl _)
  · rw [List.mem_singleton.mp e]
    exact Mild.int h
end Own

set_option Elab.async false
set_option maxRecDepth 100000
set_option maxHeartbeats 4000000
set_option linter.all false
/-! fractions in lowest terms are the core library's rationals -/
namespace Own
open PySem PySem.Spec PyProof.Rows L2
theorem gcd_int (t l : Int) : gcdI t l = ((l.gcd t : Nat) : Int) := by
  unfold gcdI
  rw [Nat.gcd_comm]
  rfl
theorem fracT_rat {t l : Int} (h : l ≠ 0) : fracT t l = (Rat.divInt t l).num := by
  rw [Rat.num_divInt]
  unfold fracT
  rw [gcd_int]
  congr 2
  split
  · rename_i hp
    exact (Int.sign_eq_one_of_pos hp).symm
  · rename_i hp
    exact (Int.sign_eq_neg_one_of_neg (by omega)).symm
theorem fracL_rat {t l : Int} (h : l ≠ 0) : fracL t l = ((Rat.divInt t l).den : Int) := by
  rw [Rat.den_divInt, if_neg h]
  unfold fracL
  rw [gcd_int, Int.natCast_ediv]
/-- a rational of few digits -/
structure Sz (x : Rat) (b : Nat) : Prop where
  n : x.num.natAbs < 2 ^ b
  d : x.den < 2 ^ b
theorem Sz.mono {x : Rat} {b c : Nat} (h : Sz x b) (e : b ≤ c) : Sz x c := ⟨Nat.lt_of_lt_of_le h.n (Nat.pow_le_pow_right (by decide) e), Nat.lt_of_lt_of_le h.d (Nat.pow_le_pow_right (by decide) e)⟩
theorem Sz.of {t l : Int} {b : Nat} (h : l ≠ 0) (h1 : t.natAbs < 2 ^ b) (h2 : l.natAbs < 2 ^ b) : Sz (Rat.divInt t l) b := by
  refine ⟨?_, ?_⟩
  · rw [← fracT_rat h]
    exact Nat.lt_of_le_of_lt (fracT_le h) h1
  · have e := fracL_rat (t := t) h
    have := fracL_le (t := t) h
    have : (Rat.divInt t l).den = (fracL t l).natAbs := by rw [e]; rfl
    omega
theorem den_ne (x : Rat) : (x.den : Int) ≠ 0 := by
  have := x.den_pos
  omega
theorem rat_add (x y : Rat) : Rat.divInt (x.num * y.den + y.num * x.den) (x.den * y.den) = x + y := by
  rw [← Rat.divInt_add_divInt _ _ (den_ne x) (den_ne y), Rat.num_divInt_den, Rat.num_divInt_den]
theorem rat_mul (x y : Rat) : Rat.divInt (x.num * y.num) (x.den * y.den) = x * y := by
  rw [← Rat.divInt_mul_divInt, Rat.num_divInt_den, Rat.num_divInt_den]
theorem rat_div (x y : Rat) : Rat.divInt (x.num * y.den) (x.den * y.num) = x / y := by
  rw [← Rat.divInt_mul_divInt, Rat.num_divInt_den, Rat.div_def, ← Rat.inv_divInt, Rat.num_divInt_den]
theorem mul_ne {a b : Int} (h1 : a ≠ 0) (h2 : b ≠ 0) : a * b ≠ 0 := fun z => (Int.mul_eq_zero.mp z).elim h1 h2
theorem natAbs_den (x : Rat) : (x.den : Int).natAbs = x.den := rfl
theorem lt_mul {a b c d : Nat} (h1 : a < 2 ^ b) (h2 : c < 2 ^ d) : a * c < 2 ^ (b + d) := by
  rw [Nat.pow_add]
  exact Nat.mul_lt_mul'' h1 h2
theorem Sz.add {x y : Rat} {b c : Nat} (h1 : Sz x b) (h2 : Sz y c) : Sz (x + y) (b + c + 1) := by
  rw [← rat_add]
  refine Sz.of (mul_ne (den_ne x) (den_ne y)) ?_ ?_
  · have a1 : (x.num * (y.den : Int)).natAbs < 2 ^ (b + c) := by rw [Int.natAbs_mul]; exact lt_mul h1.n h2.d
    have a2 : (y.num * (x.den : Int)).natAbs < 2 ^ (b + c) := by rw [Int.natAbs_mul, Nat.mul_comm]; exact lt_mul h1.d h2.n
    have a3 := Int.natAbs_add_le (x.num * (y.den : Int)) (y.num * (x.den : Int))
    rw [Nat.pow_succ]
    omega
  · rw [Int.natAbs_mul]
    exact Nat.lt_of_lt_of_le (lt_mul h1.d h2.d) (Nat.pow_le_pow_right (by decide) (by omega))
theorem Sz.mul {x y : Rat} {b c : Nat} (h1 : Sz x b) (h2 : Sz y c) : Sz (x * y) (b + c) := by
  rw [← rat_mul]
  refine Sz.of (mul_ne (den_ne x) (den_ne y)) ?_ ?_
  · rw [Int.natAbs_mul]
    exact lt_mul h1.n h2.n
  · rw [Int.natAbs_mul]
    exact lt_mul h1.d h2.d
theorem Sz.int {i : Int} {b : Nat} (h : i.natAbs < 2 ^ b) (hb : 1 ≤ b) : Sz (Rat.divInt i 1) b := Sz.of (by decide) h (Nat.lt_of_lt_of_le (show (1 : Int).natAbs < 2 ^ 1 by decide) (Nat.pow_le_pow_right (by decide) hb))
/-- an instance of Part that is x -/
def PartR (C : Addr) (H : Hp) (p : Addr) (x : Rat) : Prop := PartAt C H p x.num x.den
theorem PartR.ext {C : Addr} {H H' : Hp} {p : Addr} {x : Rat} (h : PartR C H p x) (e : Ext H H') : PartR C H' p x := by
  obtain ⟨d, h⟩ := h
  exact ⟨d, e _ _ h⟩
/-- a tuple that is x -/
def TupR (H : Hp) (p : Addr) (x : Rat) : Prop := H p = some (.tup [.int x.num, .int x.den])
theorem TupR.ext {H H' : Hp} {p : Addr} {x : Rat} (h : TupR H p x) (e : Ext H H') : TupR H' p x := e _ _ h
end Own

set_option Elab.async false
set_option maxRecDepth 100000
set_option maxHeartbeats 4000000
set_option linter.all false
/-! tables: each key once -/
namespace Own
open PySem PySem.Spec PyProof.Rows L2
section
variable {κ : Type} [DecidableEq κ]
/-- each key stands once -/
def Uniq (kvs : List (κ × V)) : Prop := (kvs.map (·.1)).Nodup
theorem Uniq.nil : Uniq ([] : List (κ × V)) := List.nodup_nil
theorem keys_put_old {kvs : List (κ × V)} {k : κ} {v : V} (h : (kvs.any fun kv => decide (kv.1 = k)) = true) : (putK kvs k v).map (·.1) = kvs.map (·.1) := by
  unfold putK
  rw [if_pos h, List.map_map]
  refine List.map_congr_left fun p hp => ?_
  show (if p.1 = k then (p.1, v) else p).1 = p.1
  split <;> rfl
theorem Uniq.put {kvs : List (κ × V)} (h : Uniq kvs) (k : κ) (v : V) : Uniq (putK kvs k v) := by
  cases e : valV kvs k with
  | none => exact nd_putK v h e
  | some x =>
    unfold Uniq
    rw [keys_put_old (by rw [valV_any, e]; rfl)]
    exact h
theorem Uniq.get : ∀ {kvs : List (κ × V)}, Uniq kvs → ∀ {p : κ × V}, p ∈ kvs → valV kvs p.1 = some p.2
  | [], _, _, hp => absurd hp List.not_mem_nil
  | q :: r, h, p, hp => by
    have h : (q.1 :: r.map (·.1)).Nodup := h
    rw [List.nodup_cons] at h
    rcases List.mem_cons.mp hp with e | e
    · rw [e]
      exact valV_pos rfl
    · rw [valV_neg fun z => h.1 (z ▸ List.mem_map.mpr ⟨p, e, rfl⟩)]
      exact Uniq.get (kvs := r) h.2 e
/-- what is so of each value -/
def AllV (P : V → Prop) (kvs : List (κ × V)) : Prop := ∀ p ∈ kvs, P p.2
theorem AllV.nil {P : V → Prop} : AllV P ([] : List (κ × V)) := fun _ h => absurd h List.not_mem_nil
theorem mem_put {kvs : List (κ × V)} {k : κ} {v : V} {p : κ × V} (h : p ∈ putK kvs k v) : p ∈ kvs ∨ p = (k, v) := by
  unfold putK at h
  split at h
  · obtain ⟨q, hq, e⟩ := List.mem_map.mp h
    by_cases z : q.1 = k
    · rw [if_pos z] at e
      exact .inr (by rw [← e, z])
    · rw [if_neg z] at e
      exact .inl (e ▸ hq)
  · rcases List.mem_append.mp h with h | h
    · exact .inl h
    · exact .inr (List.mem_singleton.mp h)
theorem AllV.put {P : V → Prop} {kvs : List (κ × V)} (h : AllV P kvs) (k : κ) {v : V} (hv : P v) : AllV P (putK kvs k v) := fun p hp => by
  rcases mem_put hp with e | e
  · exact h p e
  · rw [e]
    exact hv
theorem mem_of_val {kvs : List (κ × V)} {k : κ} {v : V} (h : valV kvs k = some v) : ∃ p ∈ kvs, p.1 = k ∧ p.2 = v := by
  unfold valV at h
  cases e : kvs.find? fun kv => decide (kv.1 = k) with
  | none => rw [e] at h; cases h
  | some p =>
    rw [e] at h
    exact ⟨p, List.mem_of_find?_eq_some e, of_decide_eq_true (List.find?_some (p := fun kv : κ × V => decide (kv.1 = k)) e), Option.some.inj h⟩
theorem AllV.val {P : V → Prop} {kvs : List (κ × V)} (h : AllV P kvs) {k : κ} {v : V} (e : valV kvs k = some v) : P v := by
  obtain ⟨p, hp, _, e2⟩ := mem_of_val e
  exact e2 ▸ h p hp
end
/-- an int -/
abbrev IsI (v : V) : Prop := ∃ i, v = V.int i
theorem pick5 {P : Int → Prop} {a b c d e k : Int} (h0 : 0 ≤ k) (h1 : k < 5) (ha : P a) (hb : P b) (hc : P c) (hd : P d) (he : P e) : ∃ v, atI [V.int a, .int b, .int c, .int d, .int e] k = some (.int v) ∧ P v := by
  rcases (by omega : k = 0 ∨ k = 1 ∨ k = 2 ∨ k = 3 ∨ k = 4) with rfl | rfl | rfl | rfl | rfl
  · exact ⟨a, rfl, ha⟩
  · exact ⟨b, rfl, hb⟩
  · exact ⟨c, rfl, hc⟩
  · exact ⟨d, rfl, hd⟩
  · exact ⟨e, rfl, he⟩
theorem pick2 {P : Int → Prop} {a b k : Int} (h0 : 0 ≤ k) (h1 : k < 2) (ha : P a) (hb : P b) : ∃ v, atI [V.int a, .int b] k = some (.int v) ∧ P v := by
  rcases (by omega : k = 0 ∨ k = 1) with rfl | rfl
  · exact ⟨a, rfl, ha⟩
  · exact ⟨b, rfl, hb⟩
theorem drawn6 {ds : List Int} {a b c d e f : Int} (h : Paired (fun d z => 0 ≤ d ∧ d < z) ds [a, b, c, d, e, f]) : ∃ u v w x y z : Int, ds = [u, v, w, x, y, z] ∧ (0 ≤ u ∧ u < a) ∧ (0 ≤ v ∧ v < b) ∧ (0 ≤ w ∧ w < c) ∧ (0 ≤ x ∧ x < d) ∧ (0 ≤ y ∧ y < e) ∧ (0 ≤ z ∧ z < f) := by
  cases h with
  | cons h1 h =>
    obtain ⟨v, w, x, y, z, rfl, h2⟩ := drawn5 h
    exact ⟨_, _, _, _, _, _, rfl, h1, h2⟩
/-- a name of the list -/
theorem str_at {zs : List Str} {k : Int} (h0 : 0 ≤ k) (h1 : k < zs.length) : ∃ z, z ∈ zs ∧ atI (zs.map V.str) k = some (V.str z) := by
  obtain ⟨v, e1, e2⟩ := atI_lt (xs := zs) h0 h1
  exact ⟨v, List.mem_of_getElem? e1, atI_map e2⟩
theorem Neat.bl (b : Bool) : Neat (.bool b) := by
  cases b
  · exact ⟨rfl, rfl, by decide, by decide +kernel⟩
  · exact ⟨rfl, rfl, by decide, by decide +kernel⟩
end Own
namespace Own
open PySem PySem.Spec PyProof.Rows L2
/-! a dict that is walked -/
/-- all cells but d stay -/
def Off (d : Addr) (H H' : Hp) : Prop := ∀ b o, H b = some o → b ≠ d → H' b = some o
theorem Off.upd {d : Addr} {H : Hp} {u : HO} : Off d H (L2.upd H d u) := fun b o hb hne => by
  rw [upd_ne hne]
  exact hb
theorem Off.ext {d : Addr} {H H' H2 : Hp} (h : Off d H H') (e : Ext H' H2) : Off d H H2 := fun b o hb hne => e _ _ (h b o hb hne)
theorem Ext.off {d : Addr} {H H' H2 : Hp} (e : Ext H H') (h : Off d H' H2) : Off d H H2 := fun b o hb hne => h b o (e _ _ hb) hne
theorem Off.trans {d : Addr} {H H' H2 : Hp} (h : Off d H H') (h2 : Off d H' H2) : Off d H H2 := fun b o hb hne => h2 b o (h b o hb hne) hne
/-- behind the walk all is as ahead of it, and what is new -/
theorem lock_out {d : Addr} {od : Obj} {H H' : Hp} {u : HO} (hd : H d = some u) (e : Ext (L2.upd H d (.frz od u)) H') : Ext H (L2.upd H' d u) := fun b o hb => by
  by_cases z : b = d
  · rw [z] at hb ⊢
    rw [upd_same, ← hb, hd]
  · rw [upd_ne z]
    exact e _ _ (by rw [upd_ne z]; exact hb)
theorem rd_frz {d : Addr} {od : Obj} {H H' : Hp} {u : HO} (e : Ext (L2.upd H d (.frz od u)) H') : H' d = some (.frz od u) := e _ _ upd_same
theorem rd_lock {d s : Addr} {od : Obj} {H H' : Hp} {u u2 : HO} (hd : H d = some u) (hs : H s = some u2) (e : Ext (L2.upd H d (.frz od u)) H') : Rd H' s u2 := by
  by_cases z : s = d
  · rw [z, hd] at hs
    rw [z, ← Option.some.inj hs]
    exact .inr ⟨od, rd_frz e⟩
  · exact .inl (e _ _ (by rw [upd_ne z]; exact hs))
theorem off_lock {d : Addr} {od : Obj} {H H' : Hp} {u : HO} (e : Ext (L2.upd H d (.frz od u)) H') : Off d H H' := Off.upd.ext e
theorem PartR.off {C d p : Addr} {H H' : Hp} {x : Rat} {kvs : List (Key × V)} (h : PartR C H p x) (hd : H d = some (.dK kvs)) (e : Off d H H') : PartR C H' p x := by
  obtain ⟨q, h⟩ := h
  exact ⟨q, e _ _ h fun z => by rw [z, hd] at h; cases h⟩
theorem TupR.off {d p : Addr} {H H' : Hp} {x : Rat} {kvs : List (Key × V)} (h : TupR H p x) (hd : H d = some (.dK kvs)) (e : Off d H H') : TupR H' p x := by
  unfold TupR at h ⊢
  exact e _ _ h fun z => by rw [z, hd] at h; cases h
theorem seqL_off {K : PySem.W.Frag} {H H' : Hp} {p d : Addr} {xs : List V} {kvs : List (Key × V)} (h : SqL K H p xs) (hd : H d = some (.dK kvs)) (e : Off d H H') : SqL K H' p xs := by
  have ne : ∀ {u}, H p = some u → (∀ k, u ≠ .dK k) → p ≠ d := fun {u} hu hk z => by
    rw [z, hd] at hu
    exact hk kvs (Option.some.inj hu).symm
  rcases h with (h | ⟨o, h⟩) | h
  · exact .inl (.inl (e _ _ h (ne h fun k z => by cases z)))
  · exact .inl (.inr ⟨o, e _ _ h (ne h fun k z => by cases z)⟩)
  · exact .inr h
end Own
namespace Own
open PySem PySem.Spec PyProof.Rows L2
/-! rows of a name and a part; bags -/
def RowP (C : Addr) (H : Hp) (t : Addr) (e : Str × Rat) : Prop := ∃ q, H t = some (.tup [.str e.1, .ref q]) ∧ PartR C H q e.2
theorem rowP_ext {C : Addr} {H H' : Hp} {ts : List Addr} {es : List (Str × Rat)} (h : Paired (RowP C H) ts es) (e : Ext H H') : Paired (RowP C H') ts es := pmono (fun t r z => by
  obtain ⟨q, z1, z2⟩ := z
  exact ⟨q, e _ _ z1, z2.ext e⟩) h
theorem PartR.offL {C d p : Addr} {H H' : Hp} {x : Rat} {xs : List V} (h : PartR C H p x) (hd : H d = some (.lst xs)) (e : Off d H H') : PartR C H' p x := by
  obtain ⟨q, h⟩ := h
  exact ⟨q, e _ _ h fun z => by rw [z, hd] at h; cases h⟩
theorem rowP_offL {C d : Addr} {H H' : Hp} {ts : List Addr} {es : List (Str × Rat)} {xs : List V} (h : Paired (RowP C H) ts es) (hd : H d = some (.lst xs)) (e : Off d H H') : Paired (RowP C H') ts es := pmono (fun t r z => by
  obtain ⟨q, z1, z2⟩ := z
  exact ⟨q, e _ _ z1 (fun y => by rw [y, hd] at z1; cases z1), z2.offL hd e⟩) h
/-- the parts of a bag: names and tuples -/
def TR (H : Hp) (kv : Key × V) (e : Str × Rat) : Prop := ∃ t, kv = (Sum.inr e.1, V.ref t) ∧ TupR H t e.2
theorem tr_ext {H H' : Hp} {kvs : List (Key × V)} {es : List (Str × Rat)} (h : Paired (TR H) kvs es) (e : Ext H H') : Paired (TR H') kvs es := pmono (fun kv r z => by
  obtain ⟨t, z1, z2⟩ := z
  exact ⟨t, z1, z2.ext e⟩) h
theorem tr_off {d : Addr} {H H' : Hp} {kvs ks : List (Key × V)} {es : List (Str × Rat)} (h : Paired (TR H) kvs es) (hd : H d = some (.dK ks)) (e : Off d H H') : Paired (TR H') kvs es := pmono (fun kv r z => by
  obtain ⟨t, z1, z2⟩ := z
  exact ⟨t, z1, z2.off hd e⟩) h
theorem tr_keys {H : Hp} : ∀ {kvs : List (Key × V)} {es : List (Str × Rat)}, Paired (TR H) kvs es → kvs.map (·.1) = (es.map (·.1)).map Sum.inr
  | _, _, .nil => rfl
  | _, _, .cons a b => by
    obtain ⟨t, h1, _⟩ := a
    rw [List.map_cons, List.map_cons, List.map_cons, tr_keys b, h1]
theorem inr_nodup {ns : List Str} (h : ns.Nodup) : (ns.map (Sum.inr : Str → Key)).Nodup := by
  rw [List.nodup_iff_pairwise_ne, List.pairwise_map]
  exact (List.nodup_iff_pairwise_ne.mp h).imp fun hne z => hne (Sum.inr.inj z)
theorem tr_uniq {H : Hp} {kvs : List (Key × V)} {es : List (Str × Rat)} (h : Paired (TR H) kvs es) (nd : (es.map (·.1)).Nodup) : Uniq kvs := by
  unfold Uniq
  rw [tr_keys h]
  exact inr_nodup nd
end Own
namespace Own
open PySem PySem.Spec PyProof.Rows L2
theorem none_back {H H' : Hp} {p : Addr} (e : Ext H H') (h : H' p = none) : H p = none := by
  cases z : H p with
  | none => rfl
  | some o => rw [e _ _ z] at h; cases h
theorem none_upd {H : Hp} {p q : Addr} {u : HO} (h : L2.upd H q u p = none) : H p = none := by
  by_cases z : p = q
  · rw [z, upd_same] at h
    cases h
  · rwa [upd_ne z] at h
theorem ne_of_new {H : Hp} {p q : Addr} {o : HO} (h : H p = none) (hq : H q = some o) : p ≠ q := fun z => by rw [z, hq] at h; cases h
end Own
namespace Own
open PySem PySem.Spec PyProof.Rows L2
theorem drawn2 {ds : List Int} {a b : Int} (h : Paired (fun d z => 0 ≤ d ∧ d < z) ds [a, b]) : ∃ v w : Int, ds = [v, w] ∧ (0 ≤ v ∧ v < a) ∧ (0 ≤ w ∧ w < b) := by
  cases h with
  | cons h1 h => cases h with
    | cons h2 h => cases h with
      | nil => exact ⟨_, _, rfl, h1, h2⟩
theorem pick3 {P : Int → Prop} {a b c k : Int} (h0 : 0 ≤ k) (h1 : k < 3) (ha : P a) (hb : P b) (hc : P c) : ∃ v, atI [V.int a, .int b, .int c] k = some (.int v) ∧ P v := by
  rcases (by omega : k = 0 ∨ k = 1 ∨ k = 2) with rfl | rfl | rfl
  · exact ⟨a, rfl, ha⟩
  · exact ⟨b, rfl, hb⟩
  · exact ⟨c, rfl, hc⟩
end Own

set_option Elab.async false
set_option maxRecDepth 100000
set_option maxHeartbeats 4000000
set_option linter.all false
/-! sums by name: rows in any order, and the one list of names that rise -/
namespace Own
open PySem PySem.Spec PyProof.Rows L2
/-! ### texts in order -/
def leS (a b : Str) : Prop := ltCps b.cps.toList a.cps.toList = false
theorem leS_iff {a b : Str} : leS a b ↔ a.cps.toList ≤ b.cps.toList := by
  unfold leS
  rw [ltCps_eq, decide_eq_false_iff_not]
  exact List.not_lt
theorem leS_trans {a b c : Str} (h : leS a b) (h2 : leS b c) : leS a c := leS_iff.mpr (List.le_trans (leS_iff.mp h) (leS_iff.mp h2))
theorem str_ext {a b : Str} (h : a.cps.toList = b.cps.toList) : a = b := by
  cases a
  cases b
  congr 1
  exact Array.toList_inj.mp h
theorem leS_anti {a b : Str} (h : leS a b) (h2 : leS b a) : a = b := str_ext (List.le_antisymm (leS_iff.mp h) (leS_iff.mp h2))
theorem rising_pw : ∀ {l : List Str} {p : Str}, risingS p l = true → (p :: l).Pairwise leS
  | [], p, _ => List.pairwise_singleton _ _
  | x :: r, p, h => by
    have h : (!ltCps x.cps.toList p.cps.toList && risingS x r) = true := h
    rw [Bool.and_eq_true, Bool.not_eq_true'] at h
    have ih := rising_pw h.2
    refine List.pairwise_cons.mpr ⟨fun y hy => ?_, ih⟩
    rcases List.mem_cons.mp hy with e | e
    · rw [e]
      exact h.1
    · exact leS_trans (b := x) h.1 ((List.pairwise_cons.mp ih).1 y e)
theorem sorted_pw : ∀ {l : List Str}, sortedS l = true → l.Pairwise leS
  | [], _ => List.Pairwise.nil
  | _ :: _, h => rising_pw h
/-- rising names of the same kind are the same -/
theorem names_eq {a b : List Str} (ha : a.Pairwise leS) (hb : b.Pairwise leS) (na : a.Nodup) (nb : b.Nodup) (h : ∀ n, n ∈ a ↔ n ∈ b) : a = b :=
  List.Perm.eq_of_pairwise (le := leS) (fun _ _ _ _ h1 h2 => leS_anti h1 h2) ha hb ((List.perm_ext_iff_of_nodup na nb).mpr h)
/-! ### sums by name -/
def val : List (Str × Rat) → Str → Rat
  | [], _ => 0
  | e :: es, n => (if e.1 = n then e.2 else 0) + val es n
theorem val_append {n : Str} : ∀ {a b : List (Str × Rat)}, val (a ++ b) n = val a n + val b n
  | [], b => (Rat.zero_add _).symm
  | e :: a, b => by
    show _ + val (a ++ b) n = _ + val a n + val b n
    rw [val_append, Rat.add_assoc]
theorem val_miss {n : Str} : ∀ {es : List (Str × Rat)}, n ∉ es.map (·.1) → val es n = 0
  | [], _ => rfl
  | e :: es, h => by
    show (if e.1 = n then e.2 else 0) + val es n = 0
    rw [if_neg fun z => h (List.mem_cons.mpr (.inl z.symm)), val_miss fun z => h (List.mem_cons_of_mem _ z), Rat.zero_add]
theorem val_mem {n : Str} : ∀ {es : List (Str × Rat)} {e : Str × Rat}, (es.map (·.1)).Nodup → e ∈ es → val es e.1 = e.2
  | [], _, _, h => absurd h List.not_mem_nil
  | f :: es, e, nd, h => by
    have nd := List.nodup_cons.mp nd
    show (if f.1 = e.1 then f.2 else 0) + val es e.1 = e.2
    rcases List.mem_cons.mp h with z | z
    · rw [z, if_pos rfl, val_miss (z ▸ nd.1), Rat.add_zero]
    · rw [if_neg fun y => nd.1 (List.mem_map.mpr ⟨e, z, y.symm⟩), Rat.zero_add]
      exact val_mem (n := n) nd.2 z
/-- rising names, each once, no nought -/
structure Canon (hs : List (Str × Rat)) : Prop where
  up : (hs.map (·.1)).Pairwise leS
  nd : (hs.map (·.1)).Nodup
  nz : ∀ e ∈ hs, e.2 ≠ 0
theorem Canon.nil : Canon [] := ⟨List.Pairwise.nil, List.nodup_nil, fun _ h => absurd h List.not_mem_nil⟩
theorem Canon.mem {hs : List (Str × Rat)} (h : Canon hs) {n : Str} : n ∈ hs.map (·.1) ↔ val hs n ≠ 0 := by
  constructor
  · intro hn
    obtain ⟨e, he, rfl⟩ := List.mem_map.mp hn
    rw [val_mem (n := e.1) h.nd he]
    exact h.nz e he
  · intro hn
    exact Classical.byContradiction fun z => hn (val_miss z)
theorem Canon.eq {hs gs : List (Str × Rat)} (h : Canon hs) (g : Canon gs) (e : ∀ n, val hs n = val gs n) : hs = gs := by
  have en : hs.map (·.1) = gs.map (·.1) := names_eq h.up g.up h.nd g.nd fun n => by rw [h.mem, g.mem, e n]
  have hm : ∀ {xs : List (Str × Rat)}, (xs.map (·.1)).Nodup → xs = (xs.map (·.1)).map fun n => (n, val xs n) := fun {xs} nd => by
    rw [List.map_map]
    conv => lhs; rw [← List.map_id xs]
    exact List.map_congr_left fun x hx => by
      show x = (x.1, val xs x.1)
      rw [val_mem (n := x.1) nd hx]
  rw [hm h.nd, hm g.nd, en]
  exact List.map_congr_left fun n _ => by rw [e n]
/-- what stays of rising names where the noughts go -/
theorem Canon.of {ys : List Str} (hs : ys.Pairwise leS) (nd : ys.Nodup) (f : Str → Option (Str × Rat)) (hf : ∀ n e, f n = some e → e.1 = n ∧ e.2 ≠ 0) : Canon (ys.filterMap f) := by
  have sub : ((ys.filterMap f).map (·.1)).Sublist ys := by
    clear hs nd
    induction ys with
    | nil => exact List.Sublist.refl _
    | cons y ys ih =>
      rw [List.filterMap_cons]
      cases e : f y with
      | none => exact ih.cons _
      | some x =>
        show (x.1 :: (ys.filterMap f).map (·.1)).Sublist (y :: ys)
        rw [(hf y x e).1]
        exact ih.cons₂ _
  refine ⟨hs.sublist sub, nd.sublist sub, fun e he => ?_⟩
  obtain ⟨n, _, h⟩ := List.mem_filterMap.mp he
  exact (hf n e h).2
/-- a sum of few digits -/
theorem val_sz {n : Str} {b : Nat} : ∀ {es : List (Str × Rat)}, (∀ e ∈ es, Sz e.2 b) → Sz (val es n) (1 + es.length * (b + 1))
  | [], _ => ⟨by show (0 : Rat).num.natAbs < _; exact Nat.lt_of_lt_of_le (show (0 : Rat).num.natAbs < 2 ^ 1 by decide +kernel) (Nat.pow_le_pow_right (by decide) (by omega)), by show (0 : Rat).den < _; exact Nat.lt_of_lt_of_le (show (0 : Rat).den < 2 ^ 1 by decide +kernel) (Nat.pow_le_pow_right (by decide) (by omega))⟩
  | e :: es, h => by
    have ih := val_sz (n := n) fun x hx => h x (List.mem_cons_of_mem _ hx)
    have he := h e List.mem_cons_self
    show Sz ((if e.1 = n then e.2 else 0) + val es n) _
    rw [List.length_cons]
    split
    · refine (he.add ih).mono ?_
      rw [Nat.succ_mul]
      omega
    · rw [Rat.zero_add]
      refine ih.mono ?_
      rw [Nat.succ_mul]
      omega
theorem Canon.sz {hs : List (Str × Rat)} (h : Canon hs) {es : List (Str × Rat)} {b : Nat} (e : ∀ n, val hs n = val es n) (hb : ∀ x ∈ es, Sz x.2 b) : ∀ x ∈ hs, Sz x.2 (1 + es.length * (b + 1)) := fun x hx => by
  rw [← val_mem (n := x.1) h.nd hx, e]
  exact val_sz hb
/-- one more, summed by its name -/
def addR : List (Str × Rat) → Str → Rat → List (Str × Rat)
  | [], n, x => [(n, x)]
  | e :: es, n, x => if e.1 = n then (n, e.2 + x) :: es else e :: addR es n x
theorem val_addR {n m : Str} {x : Rat} : ∀ {es : List (Str × Rat)}, val (addR es n x) m = val es m + (if n = m then x else 0)
  | [] => by
    show (if n = m then x else 0) + 0 = 0 + _
    rw [Rat.zero_add, Rat.add_zero]
  | e :: es => by
    show val (if e.1 = n then (n, e.2 + x) :: es else e :: addR es n x) m = ((if e.1 = m then e.2 else 0) + val es m) + _
    by_cases h : e.1 = n
    · rw [if_pos h]
      show (if n = m then e.2 + x else 0) + val es m = _
      rw [h]
      by_cases g : n = m
      · rw [if_pos g, if_pos g, if_pos g]
        grind
      · rw [if_neg g, if_neg g, if_neg g]
        grind
    · rw [if_neg h]
      show (if e.1 = m then e.2 else 0) + val (addR es n x) m = _
      rw [val_addR, Rat.add_assoc]
theorem addR_names {n : Str} {x : Rat} : ∀ {es : List (Str × Rat)}, (∀ m ∈ (addR es n x).map (·.1), m = n ∨ m ∈ es.map (·.1)) ∧ ((es.map (·.1)).Nodup → ((addR es n x).map (·.1)).Nodup)
  | [] => ⟨fun m hm => .inl (List.mem_singleton.mp hm), fun _ => by
    show [n].Nodup
    simp⟩
  | e :: es => by
    have ih := addR_names (n := n) (x := x) (es := es)
    by_cases h : e.1 = n
    · have e1 : (addR (e :: es) n x).map (·.1) = (e :: es).map (·.1) := by
        show List.map (·.1) (if e.1 = n then (n, e.2 + x) :: es else e :: addR es n x) = _
        rw [if_pos h]
        show n :: _ = e.1 :: _
        rw [h]
      rw [e1]
      exact ⟨fun m hm => .inr hm, id⟩
    · have e1 : (addR (e :: es) n x).map (·.1) = e.1 :: (addR es n x).map (·.1) := by
        show List.map (·.1) (if e.1 = n then (n, e.2 + x) :: es else e :: addR es n x) = _
        rw [if_neg h]
        rfl
      rw [e1]
      refine ⟨fun m hm => ?_, fun nd => ?_⟩
      · rcases List.mem_cons.mp hm with z | z
        · exact .inr (z ▸ List.mem_cons_self)
        · rcases ih.1 m z with z | z
          · exact .inl z
          · exact .inr (List.mem_cons_of_mem _ z)
      · have nd := List.nodup_cons.mp nd
        refine List.nodup_cons.mpr ⟨fun z => ?_, ih.2 nd.2⟩
        rcases ih.1 _ z with z | z
        · exact h z
        · exact nd.1 z
theorem addR_len {n : Str} {x : Rat} : ∀ {es : List (Str × Rat)}, (addR es n x).length ≤ es.length + 1
  | [] => Nat.le_refl _
  | e :: es => by
    have := addR_len (n := n) (x := x) (es := es)
    show (if e.1 = n then (n, e.2 + x) :: es else e :: addR es n x).length ≤ _
    split
    · simp
    · simp only [List.length_cons]
      omega
theorem addR_miss {n : Str} {x : Rat} : ∀ {es : List (Str × Rat)}, n ∉ es.map (·.1) → addR es n x = es ++ [(n, x)]
  | [], _ => rfl
  | e :: es, hn => by
    have h1 : ¬ e.1 = n := fun z => hn (List.mem_cons.mpr (.inl z.symm))
    show (if e.1 = n then (n, e.2 + x) :: es else e :: addR es n x) = _
    rw [if_neg h1, addR_miss fun z => hn (List.mem_cons_of_mem _ z)]
    rfl
end Own
namespace Own
open PySem PySem.Spec PyProof.Rows L2
/-! ### dicts of names whose values are sums -/
def Ent (R : Addr → Rat → Prop) (kv : Key × V) (e : Str × Rat) : Prop := ∃ q, kv = (Sum.inr e.1, V.ref q) ∧ R q e.2
section
variable {R R' : Addr → Rat → Prop} {kvs : List (Key × V)} {es : List (Str × Rat)} {n : Str} {x : Rat}
theorem ent_mono (h : Paired (Ent R) kvs es) (m : ∀ q z, R q z → R' q z) : Paired (Ent R') kvs es := pmono (fun _ _ z => by
  obtain ⟨q, z1, z2⟩ := z
  exact ⟨q, z1, m _ _ z2⟩) h
theorem ent_keys : ∀ {kvs : List (Key × V)} {es : List (Str × Rat)}, Paired (Ent R) kvs es → kvs.map (·.1) = (es.map (·.1)).map Sum.inr
  | _, _, .nil => rfl
  | _, _, .cons a b => by
    obtain ⟨t, h1, _⟩ := a
    rw [List.map_cons, List.map_cons, List.map_cons, ent_keys b, h1]
theorem ent_uniq (h : Paired (Ent R) kvs es) (nd : (es.map (·.1)).Nodup) : Uniq kvs := by
  unfold Uniq
  rw [ent_keys h]
  exact inr_nodup nd
theorem ent_miss : ∀ {kvs : List (Key × V)} {es : List (Str × Rat)}, Paired (Ent R) kvs es → n ∉ es.map (·.1) → ∀ kv ∈ kvs, ¬ kv.1 = Sum.inr n
  | _, _, .nil, _, kv, hk => absurd hk List.not_mem_nil
  | _, _, .cons a b, hn, kv, hk => by
    rcases List.mem_cons.mp hk with e | e
    · obtain ⟨t, h1, _⟩ := a
      rw [e, h1]
      intro z
      exact hn (List.mem_cons.mpr (.inl (Sum.inr.inj z).symm))
    · exact ent_miss b (fun z => hn (List.mem_cons_of_mem _ z)) kv e
theorem val_none {kvs : List (Key × V)} {k : Key} (h : ∀ kv ∈ kvs, ¬ kv.1 = k) : valV kvs k = none := by
  unfold valV
  rw [List.find?_eq_none.mpr fun kv hkv => by simpa using h kv hkv]
  rfl
theorem put_new {kvs : List (Key × V)} {k : Key} {v : V} (h : ∀ kv ∈ kvs, ¬ kv.1 = k) : putK kvs k v = kvs ++ [(k, v)] := L2.putK_new v (val_none h)
theorem ent_get : ∀ {kvs : List (Key × V)} {es : List (Str × Rat)} {e : Str × Rat}, Paired (Ent R) kvs es → (es.map (·.1)).Nodup → e ∈ es → ∃ q, valV kvs (Sum.inr e.1) = some (V.ref q) ∧ R q e.2
  | _, _, e, .nil, _, hn => absurd hn List.not_mem_nil
  | kv :: kvs, e0 :: es, e, .cons a b, nd, hn => by
    have nd := List.nodup_cons.mp nd
    obtain ⟨t, h1, h2⟩ := a
    rcases List.mem_cons.mp hn with z | z
    · exact ⟨t, by rw [valV_pos (by rw [h1, z]), h1], z ▸ h2⟩
    · obtain ⟨q, g1, g2⟩ := ent_get b nd.2 z
      refine ⟨q, ?_, g2⟩
      rw [valV_neg]
      · exact g1
      · rw [h1]
        intro y
        exact nd.1 (List.mem_map.mpr ⟨e, z, (Sum.inr.inj y).symm⟩)
theorem ent_put_new (h : Paired (Ent R) kvs es) (hn : n ∉ es.map (·.1)) {r : Addr} (hr : R r x) : Paired (Ent R) (putK kvs (Sum.inr n) (V.ref r)) (addR es n x) := by
  rw [put_new (ent_miss h hn), addR_miss hn]
  exact Paired.snoc h ⟨r, rfl, hr⟩
theorem map_same {v : V} {kvs : List (Key × V)} (h : ∀ kv ∈ kvs, ¬ kv.1 = Sum.inr n) : kvs.map (fun kv => if kv.1 = Sum.inr n then (kv.1, v) else kv) = kvs := by
  conv => rhs; rw [← List.map_id kvs]
  exact List.map_congr_left fun kv hk => if_neg (h kv hk)
theorem ent_map : ∀ {kvs : List (Key × V)} {es : List (Str × Rat)} {x0 : Rat}, Paired (Ent R) kvs es → (es.map (·.1)).Nodup → (n, x0) ∈ es → ∀ {r : Addr}, R r (x0 + x) →
    Paired (Ent R) (kvs.map fun kv => if kv.1 = Sum.inr n then (kv.1, V.ref r) else kv) (addR es n x)
  | _, _, _, .nil, _, hn, _, _ => absurd hn List.not_mem_nil
  | kv :: kvs, e :: es, x0, .cons a b, nd, hn, r, hr => by
    have nd := List.nodup_cons.mp nd
    obtain ⟨t, h1, h2⟩ := a
    rcases List.mem_cons.mp hn with z | z
    · have hk : kv.1 = Sum.inr n := by rw [h1, ← z]
      have he : e.1 = n := by rw [← z]
      have hm : n ∉ es.map (·.1) := he ▸ nd.1
      rw [List.map_cons, if_pos hk, map_same (ent_miss b hm)]
      show Paired _ _ (if e.1 = n then (n, e.2 + x) :: es else e :: addR es n x)
      rw [if_pos he]
      exact .cons ⟨r, by rw [hk], by rw [← z]; exact hr⟩ b
    · have he : ¬ e.1 = n := fun y => nd.1 (List.mem_map.mpr ⟨(n, x0), z, y.symm⟩)
      have hk : ¬ kv.1 = Sum.inr n := by
        rw [h1]
        exact fun y => he (Sum.inr.inj y)
      rw [List.map_cons, if_neg hk]
      show Paired _ _ (if e.1 = n then (n, e.2 + x) :: es else e :: addR es n x)
      rw [if_neg he]
      exact .cons ⟨t, h1, h2⟩ (ent_map b nd.2 z hr)
theorem ent_put_old {x0 : Rat} (h : Paired (Ent R) kvs es) (nd : (es.map (·.1)).Nodup) (hn : (n, x0) ∈ es) {r : Addr} (hr : R r (x0 + x)) : Paired (Ent R) (putK kvs (Sum.inr n) (V.ref r)) (addR es n x) := by
  have hin : (kvs.any fun kv => decide (kv.1 = Sum.inr n)) = true := by
    obtain ⟨q, hq, _⟩ := ent_get h nd hn
    rw [valV_any, hq]
    rfl
  unfold putK
  rw [if_pos hin]
  exact ent_map h nd hn hr
end
/-- rows summed by their names -/
def sums (rs : List (Str × Rat)) : List (Str × Rat) := rs.foldl (fun es e => addR es e.1 e.2) []
theorem sums_snoc {rs : List (Str × Rat)} {e : Str × Rat} : sums (rs ++ [e]) = addR (sums rs) e.1 e.2 := by
  unfold sums
  rw [List.foldl_append]
  rfl
theorem sums_val' {n : Str} : ∀ {rs es : List (Str × Rat)}, val (rs.foldl (fun es e => addR es e.1 e.2) es) n = val es n + val rs n
  | [], es => (Rat.add_zero _).symm
  | e :: rs, es => by
    show val (rs.foldl _ (addR es e.1 e.2)) n = val es n + ((if e.1 = n then e.2 else 0) + val rs n)
    rw [sums_val', val_addR, Rat.add_assoc]
theorem sums_val {n : Str} {rs : List (Str × Rat)} : val (sums rs) n = val rs n := by
  unfold sums
  rw [sums_val']
  exact Rat.zero_add _
theorem sums_nd' : ∀ {rs es : List (Str × Rat)}, (es.map (·.1)).Nodup → ((rs.foldl (fun es e => addR es e.1 e.2) es).map (·.1)).Nodup
  | [], _, h => h
  | e :: rs, es, h => sums_nd' (rs := rs) (es := addR es e.1 e.2) (addR_names.2 h)
theorem sums_nd {rs : List (Str × Rat)} : ((sums rs).map (·.1)).Nodup := sums_nd' List.nodup_nil
theorem sums_len' : ∀ {rs es : List (Str × Rat)}, (rs.foldl (fun es e => addR es e.1 e.2) es).length ≤ es.length + rs.length
  | [], _ => Nat.le_refl _
  | e :: rs, es => by
    have h := sums_len' (rs := rs) (es := addR es e.1 e.2)
    have := addR_len (n := e.1) (x := e.2) (es := es)
    show (rs.foldl _ (addR es e.1 e.2)).length ≤ es.length + (rs.length + 1)
    omega
theorem sums_len {rs : List (Str × Rat)} : (sums rs).length ≤ rs.length := by
  have := sums_len' (rs := rs) (es := [])
  unfold sums
  simpa using this
theorem sums_sz {rs : List (Str × Rat)} {b : Nat} (h : ∀ e ∈ rs, Sz e.2 b) : ∀ e ∈ sums rs, Sz e.2 (1 + rs.length * (b + 1)) := fun e he => by
  rw [← val_mem (n := e.1) sums_nd he, sums_val]
  exact val_sz h
/-- the one that stands under a name, if it is no nought -/
def pick (es : List (Str × Rat)) (y : Str) : Option (Str × Rat) := if val es y = 0 then none else some (y, val es y)
theorem pick_canon {ys : List Str} {es : List (Str × Rat)} (h : sortedS ys = true) (nd : ys.Nodup) : Canon (ys.filterMap (pick es)) := Canon.of (sorted_pw h) nd _ fun n e he => by
  unfold pick at he
  split at he
  · cases he
  · cases he
    exact ⟨rfl, by assumption⟩
theorem pick_val {ys : List Str} {es : List (Str × Rat)} (nd : ys.Nodup) (hm : ∀ n, val es n ≠ 0 → n ∈ ys) (n : Str) : val (ys.filterMap (pick es)) n = val es n := by
  have key : ∀ {ys : List Str}, ys.Nodup → val (ys.filterMap (pick es)) n = if n ∈ ys then val es n else 0 := by
    intro ys nd
    induction ys with
    | nil => rfl
    | cons y ys ih =>
      have nd := List.nodup_cons.mp nd
      rw [List.filterMap_cons]
      unfold pick at ih ⊢
      by_cases h0 : val es y = 0
      · rw [if_pos h0]
        show val (List.filterMap _ ys) n = _
        rw [ih nd.2]
        by_cases e : n = y
        · rw [e, if_neg nd.1, if_pos List.mem_cons_self, h0]
        · have : n ∈ y :: ys ↔ n ∈ ys := by rw [List.mem_cons]; exact ⟨fun z => z.resolve_left e, .inr⟩
          simp only [this]
      · rw [if_neg h0]
        show (if y = n then val es y else 0) + val (List.filterMap _ ys) n = _
        rw [ih nd.2]
        by_cases e : y = n
        · rw [if_pos e, ← e, if_neg nd.1, if_pos List.mem_cons_self, Rat.add_zero]
        · have : n ∈ y :: ys ↔ n ∈ ys := by rw [List.mem_cons]; exact ⟨fun z => z.resolve_left fun w => e w.symm, .inr⟩
          rw [if_neg e, Rat.zero_add]
          simp only [this]
  rw [key nd]
  split
  · rfl
  · rename_i h
    exact (Classical.byContradiction fun z => h (hm n fun w => z w.symm))
end Own
namespace Own
open PySem PySem.Spec PyProof.Rows L2
/-! ### a Purse: p, its dict d, what it holds -/
def PurD (C CP : Addr) (H : Hp) (p d : Addr) (hs : List (Str × Rat)) : Prop := ∃ dx kvs, H p = some (.ins C dx [("_held", .ref d)]) ∧ H d = some (.dK kvs) ∧ Paired (Ent (PartR CP H)) kvs hs
theorem PurD.ext {C CP : Addr} {H H' : Hp} {p d : Addr} {hs : List (Str × Rat)} (h : PurD C CP H p d hs) (e : Ext H H') : PurD C CP H' p d hs := by
  obtain ⟨dx, kvs, h1, h2, h3⟩ := h
  exact ⟨dx, kvs, e _ _ h1, e _ _ h2, ent_mono h3 fun _ _ z => z.ext e⟩
theorem PurD.off {C CP : Addr} {H H' : Hp} {p d c : Addr} {hs : List (Str × Rat)} {ks : List (Key × V)} (h : PurD C CP H p d hs) (hd : d ≠ c) (hc : H c = some (.dK ks)) (e : Off c H H') : PurD C CP H' p d hs := by
  obtain ⟨dx, kvs, h1, h2, h3⟩ := h
  exact ⟨dx, kvs, e _ _ h1 (fun z => by rw [z, hc] at h1; cases h1), e _ _ h2 hd, ent_mono h3 fun _ _ z => z.off hc e⟩
theorem PurD.offL {C CP : Addr} {H H' : Hp} {p d c : Addr} {hs : List (Str × Rat)} {xs : List V} (h : PurD C CP H p d hs) (hc : H c = some (.lst xs)) (e : Off c H H') : PurD C CP H' p d hs := by
  obtain ⟨dx, kvs, h1, h2, h3⟩ := h
  exact ⟨dx, kvs, e _ _ h1 (fun z => by rw [z, hc] at h1; cases h1), e _ _ h2 (fun z => by rw [z, hc] at h2; cases h2), ent_mono h3 fun _ _ z => z.offL hc e⟩
theorem held_no {m : Str} {v : V} (h : ¬ m = "_held") : List.lookup m [((Str.ofString "_held" : Str), v)] = none := by
  rw [List.lookup_cons, show (m == Str.ofString "_held") = false from beq_eq_false_iff_ne.mpr h]
  rfl
theorem held_yes {v : V} : List.lookup (Str.ofString "_held") [((Str.ofString "_held" : Str), v)] = some v := by simp [List.lookup]
theorem catTK {X : Cx} {K : PySem.W.Frag} (h : X.K = K) : OpR X (binaryOp .Add) (rCatT K) := h ▸ op_catT
/-- a row's cell: name, top, low -/
def Row3 (H : Hp) (t : Addr) (e : Str × Rat) : Prop := H t = some (.tup [.str e.1, .int e.2.num, .int e.2.den])
def row3D (e : Str × Rat) : PyData := .tuple [.str e.1, .int e.2.num, .int e.2.den]
/-- a list of such rows -/
def Rows3 (H : Hp) (p : Addr) (es : List (Str × Rat)) : Prop := ∃ ts : List Addr, H p = some (.lst (ts.map V.ref)) ∧ Paired (Row3 H) ts es
theorem row3_ext {H H' : Hp} {ts : List Addr} {es : List (Str × Rat)} (h : Paired (Row3 H) ts es) (e : Ext H H') : Paired (Row3 H') ts es := pmono (fun _ _ z => e _ _ z) h
theorem row3_offL {d : Addr} {H H' : Hp} {ts : List Addr} {es : List (Str × Rat)} {xs : List V} (h : Paired (Row3 H) ts es) (hd : H d = some (.lst xs)) (e : Off d H H') : Paired (Row3 H') ts es := pmono (fun _ _ z => e _ _ z fun y => by
  rw [y, hd] at z
  cases z) h
theorem Rows3.ext {H H' : Hp} {p : Addr} {es : List (Str × Rat)} (h : Rows3 H p es) (e : Ext H H') : Rows3 H' p es := by
  obtain ⟨ts, h1, h2⟩ := h
  exact ⟨ts, e _ _ h1, row3_ext h2 e⟩
theorem row3_dp {K : PySem.W.Frag} {H : Hp} : ∀ {ts : List Addr} {es : List (Str × Rat)}, Paired (Row3 H) ts es → DpAll K H (ts.map V.ref) (es.map row3D)
  | _, _, .nil => .nil
  | _, _, .cons a b => .cons (.tup (ofT a) (.cons (.str _) (.cons (.int _) (.cons (.int _) .nil)))) (row3_dp b)
theorem Rows3.dp {K : PySem.W.Frag} {H : Hp} {p : Addr} {es : List (Str × Rat)} (h : Rows3 H p es) : Dp K H (.ref p) (.list (es.map row3D)) := by
  obtain ⟨ts, h1, h2⟩ := h
  exact .lst (ofL h1) (row3_dp h2)
theorem Mild.frac {x : Rat} (h : Sz x 1900) : Mild (.tuple [.int x.num, .int x.den]) 4000 1 := by
  refine (Mild.tuple (n := 1921) (k := 0) (m := 2) (fun d hd => ?_) (Nat.le_refl _)).mono (by decide) (Nat.le_refl _)
  rcases List.mem_cons.mp hd with e | e
  · rw [e]
    exact Mild.int (log2_of (Nat.lt_of_lt_of_le h.n (Nat.pow_le_pow_right (by decide) (by decide))))
  · rw [List.mem_singleton.mp e]
    exact Mild.int (log2_of (Nat.lt_of_lt_of_le h.d (Nat.pow_le_pow_right (by decide) (by decide))))
theorem Mild.row3 {e : Str × Rat} {n : Nat} (a : Small e.1 n) (hn : n ≤ 100) (h : Sz e.2 1900) : Mild (row3D e) 6000 1 := by
  refine (Mild.tuple (n := 1921) (k := 0) (m := 3) (fun d hd => ?_) (Nat.le_refl _)).mono (by decide) (Nat.le_refl _)
  rcases List.mem_cons.mp hd with e | e
  · rw [e]
    exact (Mild.str a).mono (by omega) (Nat.le_refl _)
  · rcases List.mem_cons.mp e with e | e
    · rw [e]
      exact Mild.int (log2_of (Nat.lt_of_lt_of_le h.n (Nat.pow_le_pow_right (by decide) (by decide))))
    · rw [List.mem_singleton.mp e]
      exact Mild.int (log2_of (Nat.lt_of_lt_of_le h.d (Nat.pow_le_pow_right (by decide) (by decide))))
theorem Mild.rows3 {es : List (Str × Rat)} (h : ∀ e ∈ es, (∃ n, Small e.1 n ∧ n ≤ 100) ∧ Sz e.2 1900) (hl : es.length ≤ 1000) : Mild (.list (es.map row3D)) 7000000 2 :=
  (Mild.list (n := 6000) (k := 1) (m := 1000) (fun d hd => by
    obtain ⟨e, he, rfl⟩ := List.mem_map.mp hd
    obtain ⟨⟨n, h1, h2⟩, h3⟩ := h e he
    exact Mild.row3 h1 h2 h3) (by rw [List.length_map]; exact hl)).mono (by decide) (Nat.le_refl _)
end Own
namespace Own
open PySem PySem.Spec PyProof.Rows L2
theorem pcomp {α β γ : Type} {F : α → β → Prop} {G : β → γ → Prop} {R : α → γ → Prop} (h : ∀ x y z, F x y → G y z → R x z) : ∀ {xs : List α} {ys : List β} {zs : List γ}, Paired F xs ys → Paired G ys zs → Paired R xs zs
  | _, _, _, .nil, .nil => .nil
  | _, _, _, .cons a b, .cons c d => .cons (h _ _ _ a c) (pcomp h b d)
theorem papp {α β : Type} {F : α → β → Prop} : ∀ {xs xs' : List α} {ys ys' : List β}, Paired F xs ys → Paired F xs' ys' → Paired F (xs ++ xs') (ys ++ ys')
  | _, _, _, _, .nil, h => h
  | _, _, _, _, .cons a b, h => .cons a (papp b h)
/-- each sum times x -/
def timesL (x : Rat) (es : List (Str × Rat)) : List (Str × Rat) := es.map fun e => (e.1, e.2 * x)
theorem val_times {x : Rat} {n : Str} : ∀ {es : List (Str × Rat)}, val (timesL x es) n = val es n * x
  | [] => (Rat.zero_mul x).symm
  | e :: es => by
    show (if e.1 = n then e.2 * x else 0) + val (timesL x es) n = ((if e.1 = n then e.2 else 0) + val es n) * x
    rw [val_times, Rat.add_mul]
    split
    · rfl
    · rw [Rat.zero_mul]
/-- equal lists of rising names: as many, and each sum the same -/
theorem canon_all {hs gs : List (Str × Rat)} (h : Canon hs) (g : Canon gs) : (decide (hs.length = gs.length) && hs.all fun x => decide (val gs x.1 = x.2)) = decide (hs = gs) := by
  by_cases e : hs = gs
  · subst e
    rw [decide_eq_true rfl, decide_eq_true rfl, Bool.true_and, List.all_eq_true]
    exact fun x hx => decide_eq_true (val_mem (n := x.1) h.nd hx)
  · rw [decide_eq_false e, Bool.and_eq_false_iff]
    refine Classical.byContradiction fun z => e (h.eq g fun n => ?_)
    rw [not_or, Bool.not_eq_false, Bool.not_eq_false] at z
    have hl := of_decide_eq_true z.1
    have ha := List.all_eq_true.mp z.2
    have hv : ∀ x ∈ hs, val gs x.1 = x.2 := fun x hx => of_decide_eq_true (ha x hx)
    by_cases hn : n ∈ hs.map (·.1)
    · obtain ⟨x, hx, rfl⟩ := List.mem_map.mp hn
      rw [val_mem (n := x.1) h.nd hx, hv x hx]
    · rw [val_miss hn]
      refine (Classical.byContradiction fun y => ?_ : (0 : Rat) = val gs n)
      have hg : n ∈ gs.map (·.1) := g.mem.mpr fun w => y w.symm
      have hsub : n :: hs.map (·.1) ⊆ gs.map (·.1) := fun m hm => by
        rcases List.mem_cons.mp hm with w | w
        · exact w ▸ hg
        · obtain ⟨x, hx, rfl⟩ := List.mem_map.mp w
          exact g.mem.mpr fun u => h.nz x hx (by rw [← hv x hx, u])
      have := nodup_le (List.nodup_cons.mpr ⟨hn, h.nd⟩) hsub
      rw [List.length_cons, List.length_map, List.length_map] at this
      omega
/-- what is poured into a bag -/
def pour (x : Rat) (es fs : List (Str × Rat)) : List (Str × Rat) := fs.foldl (fun es e => addR es e.1 (e.2 * x)) es
theorem pour_snoc {x : Rat} {es fs : List (Str × Rat)} {e : Str × Rat} : pour x es (fs ++ [e]) = addR (pour x es fs) e.1 (e.2 * x) := by
  unfold pour
  rw [List.foldl_append]
  rfl
theorem pour_val {x : Rat} {n : Str} : ∀ {fs es : List (Str × Rat)}, val (pour x es fs) n = val es n + val fs n * x
  | [], es => by
    show val es n = val es n + 0 * x
    rw [Rat.zero_mul, Rat.add_zero]
  | e :: fs, es => by
    show val (pour x (addR es e.1 (e.2 * x)) fs) n = val es n + ((if e.1 = n then e.2 else 0) + val fs n) * x
    rw [pour_val, val_addR, Rat.add_mul, Rat.add_assoc]
    split
    · rfl
    · rw [Rat.zero_mul]
theorem pour_nd {x : Rat} : ∀ {fs es : List (Str × Rat)}, (es.map (·.1)).Nodup → ((pour x es fs).map (·.1)).Nodup
  | [], _, h => h
  | e :: fs, es, h => pour_nd (fs := fs) (es := addR es e.1 (e.2 * x)) (addR_names.2 h)
theorem pour_len {x : Rat} : ∀ {fs es : List (Str × Rat)}, (pour x es fs).length ≤ es.length + fs.length
  | [], _ => Nat.le_refl _
  | e :: fs, es => by
    have h := pour_len (x := x) (fs := fs) (es := addR es e.1 (e.2 * x))
    have := addR_len (n := e.1) (x := e.2 * x) (es := es)
    show (pour x (addR es e.1 (e.2 * x)) fs).length ≤ es.length + (fs.length + 1)
    omega
theorem addR_mem {n : Str} {x : Rat} {e : Str × Rat} : ∀ {es : List (Str × Rat)}, e ∈ addR es n x → e ∈ es ∨ e = (n, x) ∨ ∃ y, (n, y) ∈ es ∧ e = (n, y + x)
  | [], h => .inr (.inl (List.mem_singleton.mp h))
  | f :: es, h => by
    have h : e ∈ (if f.1 = n then (n, f.2 + x) :: es else f :: addR es n x) := h
    split at h
    · rename_i hf
      rcases List.mem_cons.mp h with h | h
      · exact .inr (.inr ⟨f.2, hf ▸ List.mem_cons_self, h⟩)
      · exact .inl (List.mem_cons_of_mem _ h)
    · rcases List.mem_cons.mp h with h | h
      · exact .inl (h ▸ List.mem_cons_self)
      · rcases addR_mem h with h | h | ⟨y, h, e2⟩
        · exact .inl (List.mem_cons_of_mem _ h)
        · exact .inr (.inl h)
        · exact .inr (.inr ⟨y, List.mem_cons_of_mem _ h, e2⟩)
/-- a law's bag: names of the list, once each, sums of few digits -/
structure Bg (es : List (Str × Rat)) (zs : List Str) (m b : Nat) : Prop where
  nd : (es.map (·.1)).Nodup
  ln : es.length ≤ m
  nm : ∀ e ∈ es, e.1 ∈ zs
  sz : ∀ e ∈ es, Sz e.2 b
theorem Bg.nil {zs : List Str} : Bg [] zs 0 0 := ⟨List.nodup_nil, Nat.le_refl _, fun _ h => absurd h List.not_mem_nil, fun _ h => absurd h List.not_mem_nil⟩
theorem Bg.mono {es : List (Str × Rat)} {zs : List Str} {m b m' b' : Nat} (h : Bg es zs m b) (hm : m ≤ m') (hb : b ≤ b') : Bg es zs m' b' := ⟨h.nd, Nat.le_trans h.ln hm, h.nm, fun e he => (h.sz e he).mono hb⟩
theorem Bg.add {es : List (Str × Rat)} {zs : List Str} {m b c : Nat} {n : Str} {x : Rat} (h : Bg es zs m b) (hn : n ∈ zs) (hx : Sz x c) : Bg (addR es n x) zs (m + 1) (b + c + 1) := by
  refine ⟨addR_names.2 h.nd, ?_, fun e he => ?_, fun e he => ?_⟩
  · have := addR_len (n := n) (x := x) (es := es)
    have := h.ln
    omega
  · rcases addR_mem he with h2 | h2 | ⟨y, _, e2⟩
    · exact h.nm e h2
    · rw [h2]
      exact hn
    · rw [e2]
      exact hn
  · rcases addR_mem he with h2 | h2 | ⟨y, h2, e2⟩
    · exact (h.sz e h2).mono (by omega)
    · rw [h2]
      exact hx.mono (by omega)
    · rw [e2]
      exact ((h.sz _ h2).add hx).mono (by omega)
end Own
namespace Own
open PySem PySem.Spec PyProof.Rows L2
theorem pour_nm {x : Rat} {zs : List Str} : ∀ {fs es : List (Str × Rat)}, (∀ e ∈ es, e.1 ∈ zs) → (∀ e ∈ fs, e.1 ∈ zs) → ∀ e ∈ pour x es fs, e.1 ∈ zs
  | [], _, h1, _, e, he => h1 e he
  | f :: fs, es, h1, h2, e, he => pour_nm (fs := fs) (es := addR es f.1 (f.2 * x)) (fun y hy => by
      rcases addR_mem hy with h | h | ⟨_, _, e2⟩
      · exact h1 y h
      · rw [h]
        exact h2 f List.mem_cons_self
      · rw [e2]
        exact h2 f List.mem_cons_self) (fun y hy => h2 y (List.mem_cons_of_mem _ hy)) e he
end Own
namespace Own
open PySem PySem.Spec PyProof.Rows L2
theorem lenK {X : Cx} {K : PySem.W.Frag} (h : X.K = K) : CallR X (.builtin "len") (fun xs H Q => ∃ p ys, xs = [.ref p] ∧ (SqL K H p ys ∨ SqT K H p ys) ∧ Q (.int ys.length) H) := h ▸ call_len_seq
end Own
namespace Own
open PySem PySem.Spec PyProof.Rows L2
theorem ptake {α β : Type} {F : α → β → Prop} : ∀ {xs : List α} {ys : List β}, Paired F xs ys → ∀ n, Paired F (xs.take n) (ys.take n)
  | _, _, .nil, n => by simpa using Paired.nil
  | _, _, .cons _ _, 0 => .nil
  | _, _, .cons a b, n + 1 => .cons a (ptake b n)
end Own

set_option Elab.async false
set_option maxRecDepth 100000
set_option maxHeartbeats 4000000
set_option linter.all false
/-! dicts held against one another, their values by a def of the text -/
namespace Own
open PySem PySem.Spec PyProof.Rows L2
section
variable {prog : Program} {w : World} {κ : Type} [DecidableEq κ] {knd : KeyKind prog w κ} {A : Around} {E : Value → Shared → Prop} {s : Shared}
theorem refs_bool {p q : Addr} {Q : Bool → Shared → Prop} (hne : p ≠ q) (h : wpAny (model prog w) A (richCompare .Eq (.ref p) (.ref q)) (fun v t => ∃ e, v = .bool e ∧ Q e t) E s) : wpAny (model prog w) A (eqBool (.ref p) (.ref q)) Q E s := by
  unfold eqBool
  refine wpAny_holding (wpAny_ite_split (fun same => absurd (Value.ref.inj (eq_of_beq same)) hne) fun _ => wpAny_bind (wpAny_mono h (fun v t hv => ?_) fun _ _ z => z))
  obtain ⟨e, rfl, q⟩ := hv
  exact wpAny_truthy_bool q
theorem refs_same {p : Addr} {Q : Bool → Shared → Prop} (h : Q true s) : wpAny (model prog w) A (eqBool (.ref p) (.ref p)) Q E s := by
  unfold eqBool
  refine wpAny_holding (wpAny_ite_split (fun _ => ?_) fun z => absurd (beq_self_eq_true (Value.ref p)) z)
  exact wpAny_bind (wpAny_rule (wpAny_pure h))
/-- one pair after the other; the heap may grow on the way -/
theorem pairs_run {nm : String} {a b : Addr} {o1 o2 : Obj} {es fs : Array DictEntry} {p1 p2 : Nat} {ka kb : List (κ × Value)} {J : List (κ × Value) → Shared → Prop} {Q : Bool → Shared → Prop} (sa : (a == sysModules) = false) (sb : (b == sysModules) = false)
    (c1 : s.heap.get? a = some o1) (d1 : o1.data = .dict es p1) (k1 : KeysOf knd es) (r1 : Pairs knd es.toList ka) (c2 : s.heap.get? b = some o2) (d2 : o2.data = .dict fs p2) (k2 : KeysOf knd fs) (r2 : Pairs knd fs.toList kb)
    (kept : ∀ r t, J r t → t.heap.get? a = some o1 ∧ t.heap.get? b = some o2) (differ : ka.length ≠ kb.length → Q false s) (start : ka.length = kb.length → J ka s) (stop : ∀ t, J [] t → Q true t)
    (lack : ∀ k v r t, J ((k, v) :: r) t → valueAt kb k = none → Q false t)
    (turn : ∀ k v r t y, J ((k, v) :: r) t → valueAt kb k = some y → wpAny (model prog w) A (eqBool v y) (fun e t' => if e = true then J r t' else Q false t') E t) : wpAny (model prog w) A (Builtin.Dict.samePairs nm a b) Q E s := by
  have n1 : ka.length = es.size := by rw [← r1.length, Array.length_toList]
  have n2 : kb.length = fs.size := by rw [← r2.length, Array.length_toList]
  unfold Builtin.Dict.samePairs Builtin.Dict.showsAll
  rw [sa, sb]
  simp only [if_neg Bool.false_ne_true, pure_bind]
  refine wpAny_bind (wpAny_dictEntries c1 d1 ?_)
  refine wpAny_bind (wpAny_dictEntries c2 d2 ?_)
  by_cases hn : es.size = fs.size
  · rw [if_neg (by simp [hn])]
    refine wpAny_bind (wpAny_dictEpoch c1 d1 (wpAny_bind ?_))
    rw [Std.Legacy.Range.forIn_eq_forIn_range']
    simp only [Std.Legacy.Range.size, Nat.add_sub_cancel, Nat.div_one, Nat.sub_zero]
    refine wpAny_forIn_list _ (fun left acc t => acc = (none, ()) ∧ ∃ j, j ≤ es.size ∧ left = List.range' j (es.size - j) ∧ J (ka.drop j) t) _ ?_ ?_ _ _ ⟨rfl, 0, Nat.zero_le _, by simp, start (by omega)⟩
    · rintro x left acc t ⟨rfl, j, hj, hl, hJ⟩
      have jl : j < es.size := Nat.lt_of_le_of_ne hj fun z => by
        rw [z, Nat.sub_self] at hl
        cases hl
      rw [show es.size - j = (es.size - (j + 1)) + 1 by omega, List.range'_succ] at hl
      obtain ⟨rfl, hl⟩ := List.cons.inj hl
      obtain ⟨g1, g2⟩ := kept _ _ hJ
      refine wpAny_bind (wpAny_dictEntries g1 d1 ?_)
      rw [Array.getElem?_eq_getElem jl]
      have jk : x < ka.length := by omega
      obtain ⟨⟨k, v⟩, ekv⟩ : ∃ kv, ka[x] = kv := ⟨_, rfl⟩
      rw [List.drop_eq_getElem_cons jk, ekv] at hJ
      obtain ⟨isk, isv⟩ := r1.get? (i := x) (e := es[x]) (k := k) (v := v) (by rw [Array.getElem?_toList, Array.getElem?_eq_getElem jl]) (by rw [List.getElem?_eq_getElem jk, ekv])
      obtain ⟨k', isk', hh⟩ := k1 es[x] (Array.getElem_mem jl)
      rw [knd.inj _ _ _ isk' isk] at hh
      show wpAny _ _ (holding [es[x].key, es[x].val] _ >>= _) _ _ _
      rw [hh]
      have look : findBy knd.is fs k = valueAt kb k := by
        rw [← r2.find k]
        obtain ⟨l⟩ := fs
        simp [findBy]
      refine wpAny_bind (wpAny_holding (wpAny_bind (wpAny_dictFind_of isk g2 d2 k2 ?_)))
      cases hf : fs.findIdx? fun e => knd.is k e.key with
      | none =>
        have hn : valueAt kb k = none := by rw [← look, findBy_of_findIdx?, hf]
        refine wpAny_pure ?_
        show wpAny _ _ (if (!false) = true then _ else _) _ _ _
        rw [if_pos (Bool.not_false)]
        exact wpAny_pure (wpAny_pure (lack k v _ t hJ hn))
      | some i =>
        obtain ⟨il, _, _⟩ := Array.findIdx?_eq_some_iff_getElem.mp hf
        have hv : valueAt kb k = some fs[i].val := by
          rw [← look, findBy_of_findIdx?, hf]
          simp [Array.getElem?_eq_getElem il]
        refine wpAny_bind (wpAny_dictEntries g2 d2 ?_)
        rw [Array.getElem?_eq_getElem il]
        refine wpAny_holding ?_
        rw [isv]
        refine wpAny_mono (turn k v _ t _ hJ hv) (fun e t' ht => ?_) fun _ _ z => z
        cases e with
        | false =>
          show wpAny _ _ (if (!false) = true then _ else _) _ _ _
          rw [if_pos (Bool.not_false)]
          exact wpAny_pure (wpAny_pure ht)
        | true =>
          have ht : J (ka.drop (x + 1)) t' := ht
          show wpAny _ _ (if (!true) = true then _ else _) _ _ _
          rw [if_neg (by decide)]
          refine wpAny_bind (wpAny_dictEpoch (kept _ _ ht).1 d1 ?_)
          rw [if_neg (by simp)]
          exact wpAny_pure ⟨rfl, x + 1, jl, hl, ht⟩
    · rintro acc t ⟨rfl, j, hj, hl, hJ⟩
      have je : j = es.size := Nat.le_antisymm hj (Nat.le_of_not_lt fun z => by
        rw [show es.size - j = (es.size - (j + 1)) + 1 by omega, List.range'_succ] at hl
        cases hl)
      rw [je, ← n1, List.drop_length] at hJ
      exact wpAny_pure (stop t hJ)
  · rw [if_pos (by simpa using hn)]
    exact wpAny_bind (wpAny_rule (wpAny_pure (differ (by omega))))
theorem dicts_run {a b : Addr} {o1 o2 : Obj} {es fs : Array DictEntry} {p1 p2 : Nat} {ka kb : List (κ × Value)} {J : List (κ × Value) → Shared → Prop} {Q : Value → Shared → Prop} (hu : A.units < cLine) (sa : (a == sysModules) = false) (sb : (b == sysModules) = false)
    (c1 : s.heap.get? a = some o1) (x1 : o1.ExactDict) (d1 : o1.data = .dict es p1) (k1 : KeysOf knd es) (r1 : Pairs knd es.toList ka) (c2 : s.heap.get? b = some o2) (x2 : o2.ExactDict) (d2 : o2.data = .dict fs p2) (k2 : KeysOf knd fs) (r2 : Pairs knd fs.toList kb)
    (kept : ∀ r t, J r t → t.heap.get? a = some o1 ∧ t.heap.get? b = some o2) (differ : ka.length ≠ kb.length → Q (.bool false) s) (start : ka.length = kb.length → J ka s) (stop : ∀ t, J [] t → Q (.bool true) t)
    (lack : ∀ k v r t, J ((k, v) :: r) t → valueAt kb k = none → Q (.bool false) t)
    (turn : ∀ k v r t y, J ((k, v) :: r) t → valueAt kb k = some y → wpAny (model prog w) A.in1 (eqBool v y) (fun e t' => if e = true then J r t' else Q (.bool false) t') E t) :
    wpAny (model prog w) A (richCompare .Eq (.ref a) (.ref b)) Q E s := by
  have t1 : s.TypeIs (.ref a) "dict" := ⟨_, c1, x1.1⟩
  have t2 : s.TypeIs (.ref b) "dict" := ⟨_, c2, x2.1⟩
  refine wpAny_richCompare_same_room (op := .Eq) t1 t2 PySem.F.slot_dict_eq (wpAny_call_entry PySem.F.slot_dict_eq t1 PySem.F.entry_dict_eq ?_ (PySem.F.args_dict_eq_2 _ _)) hu
  show wpAny _ _ (Builtin.Dict.dictSlotArgs "__eq__" ⟨[.ref a, .ref b], []⟩ >>= _) _ _ s
  unfold Builtin.Dict.dictSlotArgs
  refine wpAny_bind (wpAny_bind (wpAny_notOrdered_dict t1 (wpAny_pure (wpAny_bind (wpAny_isInstance (T := "dict") t2 PySem.F.sub_dict_dict ?_)))))
  rw [if_neg (by decide)]
  refine wpAny_bind (m := Builtin.Dict.addrOf (.ref a)) (wpAny_pure (wpAny_bind (m := Builtin.Dict.addrOf (.ref b)) (wpAny_pure (wpAny_bind ?_))))
  refine wpAny_mono (pairs_run (J := J) (Q := fun e t => Q (.bool e) t) sa sb c1 d1 k1 r1 c2 d2 k2 r2 kept differ start stop lack turn) (fun e t h => ?_) fun _ _ z => z
  refine wpAny_pure ⟨_, rfl, (fun z => nomatch z), ?_⟩
  cases e <;> exact h
end
/-- two values: one thing, or held by the class's own def, which leaves the heap as it is -/
def ValEq (K : PySem.W.Frag) (C : Addr) (sp : Sp) (E : XK) (H : Hp) (v y : V) (e : Bool) : Prop := ∃ p q : Addr, v = .ref p ∧ y = .ref q ∧ ((p = q ∧ e = true) ∨ (p ≠ q ∧ ∃ dx fs t, H p = some (.ins C dx fs) ∧ TyX K H (.ref q) t ∧ PySem.W.notFirst K C t = true ∧ sp [.ref p, .ref q] H (fun z H' => z = .bl e ∧ H' = H) E))
inductive Held (K : PySem.W.Frag) (C : Addr) (sp : Sp) (E : XK) (H : Hp) (kb : List (Key × V)) : List (Key × V) → Bool → Prop
  | nil : Held K C sp E H kb [] true
  | miss {k : Key} {v : V} {r : List (Key × V)} : valV kb k = none → Held K C sp E H kb ((k, v) :: r) false
  | no {k : Key} {v y : V} {r : List (Key × V)} : valV kb k = some y → ValEq K C sp E H v y false → Held K C sp E H kb ((k, v) :: r) false
  | yes {k : Key} {v y : V} {r : List (Key × V)} {e : Bool} : valV kb k = some y → ValEq K C sp E H v y true → Held K C sp E H kb r e → Held K C sp E H kb ((k, v) :: r) e
/-- d == e, both of them locked, their values by a def of the text -/
def rEqDO (K : PySem.W.Frag) (C : Addr) (sp : Sp) (E : XK) : R2 := fun x y H Q => ∃ (a b : Addr) (oa ob : Obj) (ka kb : List (Key × V)) (e : Bool), x = .ref a ∧ y = .ref b ∧ H a = some (.frz oa (.dK ka)) ∧ H b = some (.frz ob (.dK kb)) ∧ (ka.length = kb.length → Held K C sp E H kb ka e) ∧ Q (.bl (decide (ka.length = kb.length) && e)) H
section
variable {X : Cx}
theorem op_eq_dictO {CX : CXT} {k : Nat} {C f : Addr} {fd : FuncData} {ps : List Str} {sp : Sp} {E : XK} (F : FnOk X.prog X.w X.K X.mg X.base CX k f fd ps sp) (hr : Room (k + 1) X.A) (hb : Binds X.K fd ps []) (hx : Passes CX X E)
    (hs : PySem.W.findIn X.K (.ref C) "__eq__" = some (some (.ref f))) (hf : PySem.W.isFn X.K (.ref f) = true) : OpR X (compareOp .Eq) (rEqDO X.K C sp E) := by
  intro pins s σ H x y v u Q I rx ry h
  obtain ⟨a, b, oa, ob, ka, kb, e, rfl, rfl, ha, hb2, hheld, q⟩ := h
  obtain rfl : v = Value.ref a := rx
  obtain rfl : u = Value.ref b := ry
  obtain ⟨sa, ca, xa, es, pa, va, da, za, ra, ma⟩ := I.frzK ha
  obtain ⟨sb, cb, xb, fs, pb, vb, db, zb, rb, mb⟩ := I.frzK hb2
  obtain ⟨o1, es1, g1, _, f1, ka1, pa1, _⟩ := ma
  obtain rfl : oa = o1 := Option.some.inj (ca.symm.trans g1)
  obtain ⟨rfl, _⟩ := Data.dict.inj (da.symm.trans f1)
  obtain ⟨o2, es2, g2, _, f2, kb2, pb2, _⟩ := mb
  obtain rfl : ob = o2 := Option.some.inj (cb.symm.trans g2)
  obtain ⟨rfl, _⟩ := Data.dict.inj (db.symm.trans f2)
  have hl : ka.length = kb.length ↔ va.length = vb.length := by rw [ra.length, rb.length]
  have ans : ∀ {t : Shared} {z : Bool}, L2.Inv X pins σ H t → (decide (ka.length = kb.length) && e) = z → EP X pins σ Q (.bool z) t := fun {t z} I' hz => ⟨.bl z, H, I', rfl, hz ▸ q⟩
  refine dicts_run (knd := mixKind X.prog X.w) (J := fun r t => ka.length = kb.length ∧ L2.Inv X pins σ H t ∧ ∃ rv, KV rv r ∧ Held X.K C sp E H kb rv e) hr.units0 sa sb ca xa da ka1 pa1 cb xb db kb2 pb2 ?_ ?_ ?_ ?_ ?_ ?_
  · rintro r t ⟨_, I', _⟩
    exact ⟨(I'.frzK ha).2.1, (I'.frzK hb2).2.1⟩
  · intro hn
    exact ans I (by rw [decide_eq_false (fun z => hn (hl.mp z))]; rfl)
  · intro hn
    exact ⟨hl.mpr hn, I, ka, ra, hheld (hl.mpr hn)⟩
  · rintro t ⟨hn, I', rv, hrv, hh⟩
    cases hrv
    cases hh
    exact ans I' (by rw [decide_eq_true hn]; rfl)
  · rintro k v r t ⟨hn, I', rv, hrv, hh⟩ hnone
    cases hrv with
    | @cons p _ ps _ hp hps =>
      obtain ⟨k1, v1⟩ := p
      obtain ⟨ek, rv1⟩ := hp
      obtain rfl : k1 = k := ek
      have hrel := rb.val k1
      rw [hnone] at hrel
      have hno : valV kb k1 = none := by
        cases z : valV kb k1 with
        | none => rfl
        | some y => rw [z] at hrel; exact hrel.elim
      cases hh with
      | miss _ => exact ans I' (by rw [Bool.and_false])
      | no hy _ => rw [hno] at hy; cases hy
      | yes hy _ _ => rw [hno] at hy; cases hy
  · rintro k v r t y ⟨hn, I', rv, hrv, hh⟩ hy
    cases hrv with
    | @cons p _ ps _ hp hps =>
      obtain ⟨k1, v1⟩ := p
      obtain ⟨ek, rv1⟩ := hp
      obtain rfl : k1 = k := ek
      have hrel := rb.val k1
      rw [hy] at hrel
      obtain ⟨y1, hy1, ry1⟩ : ∃ y1, valV kb k1 = some y1 ∧ RelV y1 y := by
        cases z : valV kb k1 with
        | none => rw [z] at hrel; exact hrel.elim
        | some y1 => rw [z] at hrel; exact ⟨y1, rfl, hrel⟩
      have ask : ∀ {z : Bool} {R : Bool → Shared → Prop}, ValEq X.K C sp E H v1 y1 z → R z t → (∀ t', L2.Inv X pins σ H t' → R z t') → wpAny (model X.prog X.w) X.A.in1 (eqBool v y) R X.xe t := by
        rintro z R ⟨p, q, rfl, rfl, hpq⟩ hR hR2
        obtain rfl : v = Value.ref p := rv1
        obtain rfl : y = Value.ref q := ry1
        rcases hpq with ⟨rfl, rfl⟩ | ⟨hne, dx, flds, ty, hp, hty, hnf, hsp⟩
        · exact refs_same hR
        · refine refs_bool hne ?_
          obtain ⟨mA, J, _⟩ := ins_get I'.hok hp
          obtain ⟨od, J, _⟩ := J.look
          obtain ⟨m, hF⟩ := I'.fr
          refine PySem.W.cmp_K (op := .Eq) hr.in1.units0 hF I'.ok.mod.kin J (typeOf_ty I' (show RelV (V.ref q) (Value.ref q) from rfl) hty) hnf hs hf ?_
          refine run_sub (A := X.A.in1) (vs := [V.ref p, V.ref q]) F ⟨hr.in1, rfl⟩ hb hx I' (.cons (show RelV (V.ref p) (Value.ref p) from rfl) (.cons (show RelV (V.ref q) (Value.ref q) from rfl) .nil)) hsp fun v2 u2 H2 s2 I2 r2 q2 => ?_
          obtain ⟨rfl, rfl⟩ := q2
          obtain rfl : u2 = Value.bool z := r2
          exact ⟨z, rfl, hR2 _ I2⟩
      cases hh with
      | miss hno => rw [hno] at hy1; cases hy1
      | no hy2 hv =>
        rw [hy2] at hy1
        obtain rfl := Option.some.inj hy1
        exact ask hv (ans I' (by rw [Bool.and_false])) fun t' I2 => ans I2 (by rw [Bool.and_false])
      | yes hy2 hv hr2 =>
        rw [hy2] at hy1
        obtain rfl := Option.some.inj hy1
        exact ask hv ⟨hn, I', ps, hps, hr2⟩ fun t' I2 => ⟨hn, I2, ps, hps, hr2⟩
end
end Own

set_option Elab.async false
set_option maxRecDepth 100000
set_option maxHeartbeats 4000000
set_option linter.all false
namespace My
open PySem L2 Own
def top (i : Nat) : Stmt := PySem.Challenge.pw_oneroof_k15_whole_fresh_gains_close.main.body.getD i (.Pass ⟨0, 0, 0, 0⟩)
abbrev s_Part_init : Stmt := inClass (top 5) 0
abbrev N_Part_init : List Str := ["self", "top", "low", "common"]
abbrev ps_Part_init : List Str := ["self", "top", "low"]
theorem sc_Part_init : FnScope N_Part_init ps_Part_init (defScope s_Part_init) := ⟨rfl, rfl, rfl, by decide +kernel, rfl, by decide +kernel, by decide +kernel⟩
abbrev s_Part_plus : Stmt := inClass (top 5) 1
abbrev N_Part_plus : List Str := ["self", "other"]
abbrev ps_Part_plus : List Str := ["self", "other"]
theorem sc_Part_plus : FnScope N_Part_plus ps_Part_plus (defScope s_Part_plus) := ⟨rfl, rfl, rfl, by decide +kernel, rfl, by decide +kernel, by decide +kernel⟩
abbrev s_Part_times : Stmt := inClass (top 5) 3
abbrev N_Part_times : List Str := ["self", "other"]
abbrev ps_Part_times : List Str := ["self", "other"]
theorem sc_Part_times : FnScope N_Part_times ps_Part_times (defScope s_Part_times) := ⟨rfl, rfl, rfl, by decide +kernel, rfl, by decide +kernel, by decide +kernel⟩
abbrev s_Part_sign : Stmt := inClass (top 5) 5
abbrev N_Part_sign : List Str := ["self"]
abbrev ps_Part_sign : List Str := ["self"]
theorem sc_Part_sign : FnScope N_Part_sign ps_Part_sign (defScope s_Part_sign) := ⟨rfl, rfl, rfl, by decide +kernel, rfl, by decide +kernel, by decide +kernel⟩
abbrev s_Part_eq : Stmt := inClass (top 5) 6
abbrev N_Part_eq : List Str := ["self", "other"]
abbrev ps_Part_eq : List Str := ["self", "other"]
theorem sc_Part_eq : FnScope N_Part_eq ps_Part_eq (defScope s_Part_eq) := ⟨rfl, rfl, rfl, by decide +kernel, rfl, by decide +kernel, by decide +kernel⟩
abbrev s_Purse_init : Stmt := inClass (top 6) 0
abbrev N_Purse_init : List Str := ["self", "rows", "sums", "coin", "part"]
abbrev ps_Purse_init : List Str := ["self", "rows"]
theorem sc_Purse_init : FnScope N_Purse_init ps_Purse_init (defScope s_Purse_init) := ⟨rfl, rfl, rfl, by decide +kernel, rfl, by decide +kernel, by decide +kernel⟩
abbrev s_Purse_at : Stmt := inClass (top 6) 1
abbrev N_Purse_at : List Str := ["self", "coin"]
abbrev ps_Purse_at : List Str := ["self", "coin"]
theorem sc_Purse_at : FnScope N_Purse_at ps_Purse_at (defScope s_Purse_at) := ⟨rfl, rfl, rfl, by decide +kernel, rfl, by decide +kernel, by decide +kernel⟩
abbrev s_Purse_coins : Stmt := inClass (top 6) 2
abbrev N_Purse_coins : List Str := ["self"]
abbrev ps_Purse_coins : List Str := ["self"]
theorem sc_Purse_coins : FnScope N_Purse_coins ps_Purse_coins (defScope s_Purse_coins) := ⟨rfl, rfl, rfl, by decide +kernel, rfl, by decide +kernel, by decide +kernel⟩
abbrev s_Purse_plus : Stmt := inClass (top 6) 3
abbrev N_Purse_plus : List Str := ["self", "other"]
abbrev ps_Purse_plus : List Str := ["self", "other"]
theorem sc_Purse_plus : FnScope N_Purse_plus ps_Purse_plus (defScope s_Purse_plus) := ⟨rfl, rfl, rfl, by decide +kernel, rfl, by decide +kernel, by decide +kernel⟩
abbrev s_Purse_minus : Stmt := inClass (top 6) 4
abbrev N_Purse_minus : List Str := ["self", "other"]
abbrev ps_Purse_minus : List Str := ["self", "other"]
theorem sc_Purse_minus : FnScope N_Purse_minus ps_Purse_minus (defScope s_Purse_minus) := ⟨rfl, rfl, rfl, by decide +kernel, rfl, by decide +kernel, by decide +kernel⟩
abbrev s_Purse_times : Stmt := inClass (top 6) 5
abbrev N_Purse_times : List Str := ["self", "part", "coin", "held"]
abbrev ps_Purse_times : List Str := ["self", "part"]
theorem sc_Purse_times : FnScope N_Purse_times ps_Purse_times (defScope s_Purse_times) := ⟨rfl, rfl, rfl, by decide +kernel, rfl, by decide +kernel, by decide +kernel⟩
abbrev s_Purse_rows : Stmt := inClass (top 6) 7
abbrev N_Purse_rows : List Str := ["self"]
abbrev ps_Purse_rows : List Str := ["self"]
theorem sc_Purse_rows : FnScope N_Purse_rows ps_Purse_rows (defScope s_Purse_rows) := ⟨rfl, rfl, rfl, by decide +kernel, rfl, by decide +kernel, by decide +kernel⟩
abbrev s_Purse_eq : Stmt := inClass (top 6) 8
abbrev N_Purse_eq : List Str := ["self", "other"]
abbrev ps_Purse_eq : List Str := ["self", "other"]
theorem sc_Purse_eq : FnScope N_Purse_eq ps_Purse_eq (defScope s_Purse_eq) := ⟨rfl, rfl, rfl, by decide +kernel, rfl, by decide +kernel, by decide +kernel⟩
abbrev s_inner : Stmt := top 8
abbrev N_inner : List Str := ["link", "since"]
abbrev ps_inner : List Str := ["link", "since"]
theorem sc_inner : FnScope N_inner ps_inner (defScope s_inner) := ⟨rfl, rfl, rfl, by decide +kernel, rfl, by decide +kernel, by decide +kernel⟩
abbrev s_cut : Stmt := top 9
abbrev N_cut : List Str := ["path", "since", "link"]
abbrev ps_cut : List Str := ["path", "since"]
theorem sc_cut : FnScope N_cut ps_cut (defScope s_cut) := ⟨rfl, rfl, rfl, by decide +kernel, rfl, by decide +kernel, by decide +kernel⟩
abbrev s_cost : Stmt := top 10
abbrev N_cost : List Str := ["count", "path", "since"]
abbrev ps_cost : List Str := ["count", "path", "since"]
theorem sc_cost : FnScope N_cost ps_cost (defScope s_cost) := ⟨rfl, rfl, rfl, by decide +kernel, rfl, by decide +kernel, by decide +kernel⟩
abbrev s_fresh : Stmt := top 11
abbrev N_fresh : List Str := ["count", "path", "since", "gains", "at", "gained"]
abbrev ps_fresh : List Str := ["count", "path", "since"]
theorem sc_fresh : FnScope N_fresh ps_fresh (defScope s_fresh) := ⟨rfl, rfl, rfl, by decide +kernel, rfl, by decide +kernel, by decide +kernel⟩
abbrev s_was_under : Stmt := top 12
abbrev N_was_under : List Str := ["house", "day", "since"]
abbrev ps_was_under : List Str := ["house", "day", "since"]
theorem sc_was_under : FnScope N_was_under ps_was_under (defScope s_was_under) := ⟨rfl, rfl, rfl, by decide +kernel, rfl, by decide +kernel, by decide +kernel⟩
abbrev s_first_fresh : Stmt := top 13
abbrev N_first_fresh : List Str := ["path", "since", "at"]
abbrev ps_first_fresh : List Str := ["path", "since"]
theorem sc_first_fresh : FnScope N_first_fresh ps_first_fresh (defScope s_first_fresh) := ⟨rfl, rfl, rfl, by decide +kernel, rfl, by decide +kernel, by decide +kernel⟩
abbrev s_cost_by_last : Stmt := top 14
abbrev N_cost_by_last : List Str := ["count", "links", "coin", "price", "many"]
abbrev ps_cost_by_last : List Str := ["count", "links"]
theorem sc_cost_by_last : FnScope N_cost_by_last ps_cost_by_last (defScope s_cost_by_last) := ⟨rfl, rfl, rfl, by decide +kernel, rfl, by decide +kernel, by decide +kernel⟩
abbrev s_l_cell : Stmt := top 16
abbrev N_l_cell : List Str := ["_law_script", "_law_k", "_law_base", "_law_one"]
abbrev ps_l_cell : List Str := ["_law_script", "_law_k"]
theorem sc_l_cell : FnScope N_l_cell ps_l_cell (defScope s_l_cell) := ⟨rfl, rfl, rfl, by decide +kernel, rfl, by decide +kernel, by decide +kernel⟩
abbrev s_l_digits : Stmt := top 17
abbrev N_l_digits : List Str := ["_law_script", "_law_k", "_law_sizes", "_law_cell_here", "_law_out", "_law_rest", "_law_size", "_law_one", "_law_j", "_law_two"]
abbrev ps_l_digits : List Str := ["_law_script", "_law_k", "_law_sizes"]
theorem sc_l_digits : FnScope N_l_digits ps_l_digits (defScope s_l_digits) := ⟨rfl, rfl, rfl, by decide +kernel, rfl, by decide +kernel, by decide +kernel⟩
abbrev s_l_names : Stmt := top 18
abbrev N_l_names : List Str := ["_law_script", "_law_k", "_law_many", "_law_found", "_law_letters", "_law_j", "_law_one", "_law_two", "_law_size", "_law_place", "_law_rest", "_law_name", "_law_i", "_law_tail"]
abbrev ps_l_names : List Str := ["_law_script", "_law_k", "_law_many"]
theorem sc_l_names : FnScope N_l_names ps_l_names (defScope s_l_names) := ⟨rfl, rfl, rfl, by decide +kernel, rfl, by decide +kernel, by decide +kernel⟩
abbrev s_l_path : Stmt := top 19
abbrev N_l_path : List Str := ["_law_script", "_law_k", "_law_names_here", "_law_size", "_law_turning", "_law_far", "_law_path_here", "_law_day", "_law_holder", "_law_giver", "_law_j", "_law_one", "_law_step", "_law_price", "_law_count", "_law_grown"]
abbrev ps_l_path : List Str := ["_law_script", "_law_k", "_law_names_here", "_law_size"]
theorem sc_l_path : FnScope N_l_path ps_l_path (defScope s_l_path) := ⟨rfl, rfl, rfl, by decide +kernel, rfl, by decide +kernel, by decide +kernel⟩
abbrev s_l_since : Stmt := top 20
abbrev N_l_since : List Str := ["_law_script", "_law_k", "_law_names_here", "_law_under", "_law_j", "_law_here", "_law_day"]
abbrev ps_l_since : List Str := ["_law_script", "_law_k", "_law_names_here"]
theorem sc_l_since : FnScope N_l_since ps_l_since (defScope s_l_since) := ⟨rfl, rfl, rfl, by decide +kernel, rfl, by decide +kernel, by decide +kernel⟩
abbrev s_l_frac : Stmt := top 21
abbrev N_l_frac : List Str := ["_law_top", "_law_low", "_law_one", "_law_other", "_law_sign"]
abbrev ps_l_frac : List Str := ["_law_top", "_law_low"]
theorem sc_l_frac : FnScope N_l_frac ps_l_frac (defScope s_l_frac) := ⟨rfl, rfl, rfl, by decide +kernel, rfl, by decide +kernel, by decide +kernel⟩
abbrev s_l_plus : Stmt := top 22
abbrev N_l_plus : List Str := ["_law_one", "_law_other"]
abbrev ps_l_plus : List Str := ["_law_one", "_law_other"]
theorem sc_l_plus : FnScope N_l_plus ps_l_plus (defScope s_l_plus) := ⟨rfl, rfl, rfl, by decide +kernel, rfl, by decide +kernel, by decide +kernel⟩
abbrev s_l_add : Stmt := top 23
abbrev N_l_add : List Str := ["_law_bag", "_law_coin", "_law_top", "_law_low", "_law_old"]
abbrev ps_l_add : List Str := ["_law_bag", "_law_coin", "_law_top", "_law_low"]
theorem sc_l_add : FnScope N_l_add ps_l_add (defScope s_l_add) := ⟨rfl, rfl, rfl, by decide +kernel, rfl, by decide +kernel, by decide +kernel⟩
abbrev s_l_due : Stmt := top 24
abbrev N_l_due : List Str := ["_law_bag", "_law_coin"]
abbrev ps_l_due : List Str := ["_law_bag"]
theorem sc_l_due : FnScope N_l_due ps_l_due (defScope s_l_due) := ⟨rfl, rfl, rfl, by decide +kernel, rfl, by decide +kernel, by decide +kernel⟩
abbrev s_l_inner : Stmt := top 25
abbrev N_l_inner : List Str := ["_law_link", "_law_under"]
abbrev ps_l_inner : List Str := ["_law_link", "_law_under"]
theorem sc_l_inner : FnScope N_l_inner ps_l_inner (defScope s_l_inner) := ⟨rfl, rfl, rfl, by decide +kernel, rfl, by decide +kernel, by decide +kernel⟩
abbrev s_l_same : Stmt := top 26
abbrev N_l_same : List Str := ["_law_one", "_law_other"]
abbrev ps_l_same : List Str := ["_law_one", "_law_other"]
theorem sc_l_same : FnScope N_l_same ps_l_same (defScope s_l_same) := ⟨rfl, rfl, rfl, by decide +kernel, rfl, by decide +kernel, by decide +kernel⟩
abbrev s_l_whole : Stmt := top 27
abbrev N_l_whole : List Str := ["_law_x"]
abbrev ps_l_whole : List Str := ["_law_x"]
theorem sc_l_whole : FnScope N_l_whole ps_l_whole (defScope s_l_whole) := ⟨rfl, rfl, rfl, by decide +kernel, rfl, by decide +kernel, by decide +kernel⟩
abbrev s_l_told : Stmt := top 28
abbrev N_l_told : List Str := ["_law_purse", "_law_found", "_law_coin", "_law_part", "_law_row"]
abbrev ps_l_told : List Str := ["_law_purse"]
theorem sc_l_told : FnScope N_l_told ps_l_told (defScope s_l_told) := ⟨rfl, rfl, rfl, by decide +kernel, rfl, by decide +kernel, by decide +kernel⟩
abbrev s_l_told_all : Stmt := top 29
abbrev N_l_told_all : List Str := ["_law_rows", "_law_row"]
abbrev ps_l_told_all : List Str := ["_law_rows"]
theorem sc_l_told_all : FnScope N_l_told_all ps_l_told_all (defScope s_l_told_all) := ⟨rfl, rfl, rfl, by decide +kernel, rfl, by decide +kernel, by decide +kernel⟩
abbrev s_law : Stmt := top 30
abbrev N_law : List Str := ["_law_script", "_law_names_here", "_law_k", "_law_size", "_law_much", "_law_lean", "_law_path_here", "_law_under", "_law_name", "_law_j", "_law_places", "_law_due_here", "_law_bag", "_law_handed", "_law_rows", "_law_both", "_law_giver", "_law_purse"]
abbrev ps_law : List Str := ["_law_script"]
theorem sc_law : FnScope N_law ps_law (defScope s_law) := ⟨rfl, rfl, rfl, by decide +kernel, rfl, by decide +kernel, by decide +kernel⟩
structure Adr where
  C_Part : Addr
  C_Purse : Addr
  f_Part_init : Addr
  d_Part_init : FuncData
  f_Part_plus : Addr
  d_Part_plus : FuncData
  f_Part_times : Addr
  d_Part_times : FuncData
  f_Part_sign : Addr
  d_Part_sign : FuncData
  f_Part_eq : Addr
  d_Part_eq : FuncData
  f_Purse_init : Addr
  d_Purse_init : FuncData
  f_Purse_at : Addr
  d_Purse_at : FuncData
  f_Purse_coins : Addr
  d_Purse_coins : FuncData
  f_Purse_plus : Addr
  d_Purse_plus : FuncData
  f_Purse_minus : Addr
  d_Purse_minus : FuncData
  f_Purse_times : Addr
  d_Purse_times : FuncData
  f_Purse_rows : Addr
  d_Purse_rows : FuncData
  f_Purse_eq : Addr
  d_Purse_eq : FuncData
  f_inner : Addr
  d_inner : FuncData
  f_cut : Addr
  d_cut : FuncData
  f_cost : Addr
  d_cost : FuncData
  f_fresh : Addr
  d_fresh : FuncData
  f_was_under : Addr
  d_was_under : FuncData
  f_first_fresh : Addr
  d_first_fresh : FuncData
  f_cost_by_last : Addr
  d_cost_by_last : FuncData
  f_l_cell : Addr
  d_l_cell : FuncData
  f_l_digits : Addr
  d_l_digits : FuncData
  f_l_names : Addr
  d_l_names : FuncData
  f_l_path : Addr
  d_l_path : FuncData
  f_l_since : Addr
  d_l_since : FuncData
  f_l_frac : Addr
  d_l_frac : FuncData
  f_l_plus : Addr
  d_l_plus : FuncData
  f_l_add : Addr
  d_l_add : FuncData
  f_l_due : Addr
  d_l_due : FuncData
  f_l_inner : Addr
  d_l_inner : FuncData
  f_l_same : Addr
  d_l_same : FuncData
  f_l_whole : Addr
  d_l_whole : FuncData
  f_l_told : Addr
  d_l_told : FuncData
  f_l_told_all : Addr
  d_l_told_all : FuncData
  f_law : Addr
  d_law : FuncData
  t_rows : Addr
/-- what the walk asks of the text -/
structure Tx (a : Adr) (K : PySem.W.Frag) (mg : Str → Option Value) (w : World) : Prop where
  F_Part_init : FunD K "__init__" "Part.__init__" (defArgs s_Part_init) (defBody s_Part_init) (defScope s_Part_init) [V.int 1] [] a.f_Part_init a.d_Part_init
  F_Part_plus : Fun K "plus" "Part.plus" s_Part_plus a.f_Part_plus a.d_Part_plus
  F_Part_times : Fun K "times" "Part.times" s_Part_times a.f_Part_times a.d_Part_times
  F_Part_sign : Fun K "sign" "Part.sign" s_Part_sign a.f_Part_sign a.d_Part_sign
  F_Part_eq : Fun K "__eq__" "Part.__eq__" s_Part_eq a.f_Part_eq a.d_Part_eq
  F_Purse_init : FunD K "__init__" "Purse.__init__" (defArgs s_Purse_init) (defBody s_Purse_init) (defScope s_Purse_init) [V.ref a.t_rows] [] a.f_Purse_init a.d_Purse_init
  F_Purse_at : Fun K "at" "Purse.at" s_Purse_at a.f_Purse_at a.d_Purse_at
  F_Purse_coins : Fun K "coins" "Purse.coins" s_Purse_coins a.f_Purse_coins a.d_Purse_coins
  F_Purse_plus : Fun K "plus" "Purse.plus" s_Purse_plus a.f_Purse_plus a.d_Purse_plus
  F_Purse_minus : Fun K "minus" "Purse.minus" s_Purse_minus a.f_Purse_minus a.d_Purse_minus
  F_Purse_times : Fun K "times" "Purse.times" s_Purse_times a.f_Purse_times a.d_Purse_times
  F_Purse_rows : Fun K "_rows" "Purse._rows" s_Purse_rows a.f_Purse_rows a.d_Purse_rows
  F_Purse_eq : Fun K "__eq__" "Purse.__eq__" s_Purse_eq a.f_Purse_eq a.d_Purse_eq
  F_inner : Fun K "inner" "inner" s_inner a.f_inner a.d_inner
  mg_inner : mg "inner" = some (.ref a.f_inner)
  F_cut : Fun K "cut" "cut" s_cut a.f_cut a.d_cut
  mg_cut : mg "cut" = some (.ref a.f_cut)
  F_cost : FunD K "cost" "cost" (defArgs s_cost) (defBody s_cost) (defScope s_cost) [] [("since", V.non)] a.f_cost a.d_cost
  mg_cost : mg "cost" = some (.ref a.f_cost)
  F_fresh : Fun K "fresh" "fresh" s_fresh a.f_fresh a.d_fresh
  mg_fresh : mg "fresh" = some (.ref a.f_fresh)
  F_was_under : Fun K "_was_under" "_was_under" s_was_under a.f_was_under a.d_was_under
  mg_was_under : mg "_was_under" = some (.ref a.f_was_under)
  F_first_fresh : Fun K "_first_fresh" "_first_fresh" s_first_fresh a.f_first_fresh a.d_first_fresh
  mg_first_fresh : mg "_first_fresh" = some (.ref a.f_first_fresh)
  F_cost_by_last : Fun K "_cost_by_last" "_cost_by_last" s_cost_by_last a.f_cost_by_last a.d_cost_by_last
  mg_cost_by_last : mg "_cost_by_last" = some (.ref a.f_cost_by_last)
  F_l_cell : Fun K "_law_cell" "_law_cell" s_l_cell a.f_l_cell a.d_l_cell
  mg_l_cell : mg "_law_cell" = some (.ref a.f_l_cell)
  F_l_digits : Fun K "_law_digits" "_law_digits" s_l_digits a.f_l_digits a.d_l_digits
  mg_l_digits : mg "_law_digits" = some (.ref a.f_l_digits)
  F_l_names : Fun K "_law_names" "_law_names" s_l_names a.f_l_names a.d_l_names
  mg_l_names : mg "_law_names" = some (.ref a.f_l_names)
  F_l_path : Fun K "_law_path" "_law_path" s_l_path a.f_l_path a.d_l_path
  mg_l_path : mg "_law_path" = some (.ref a.f_l_path)
  F_l_since : Fun K "_law_since" "_law_since" s_l_since a.f_l_since a.d_l_since
  mg_l_since : mg "_law_since" = some (.ref a.f_l_since)
  F_l_frac : Fun K "_law_frac" "_law_frac" s_l_frac a.f_l_frac a.d_l_frac
  mg_l_frac : mg "_law_frac" = some (.ref a.f_l_frac)
  F_l_plus : Fun K "_law_plus" "_law_plus" s_l_plus a.f_l_plus a.d_l_plus
  mg_l_plus : mg "_law_plus" = some (.ref a.f_l_plus)
  F_l_add : Fun K "_law_add" "_law_add" s_l_add a.f_l_add a.d_l_add
  mg_l_add : mg "_law_add" = some (.ref a.f_l_add)
  F_l_due : Fun K "_law_due" "_law_due" s_l_due a.f_l_due a.d_l_due
  mg_l_due : mg "_law_due" = some (.ref a.f_l_due)
  F_l_inner : Fun K "_law_inner" "_law_inner" s_l_inner a.f_l_inner a.d_l_inner
  mg_l_inner : mg "_law_inner" = some (.ref a.f_l_inner)
  F_l_same : Fun K "_law_same" "_law_same" s_l_same a.f_l_same a.d_l_same
  mg_l_same : mg "_law_same" = some (.ref a.f_l_same)
  F_l_whole : Fun K "_law_whole" "_law_whole" s_l_whole a.f_l_whole a.d_l_whole
  mg_l_whole : mg "_law_whole" = some (.ref a.f_l_whole)
  F_l_told : Fun K "_law_told" "_law_told" s_l_told a.f_l_told a.d_l_told
  mg_l_told : mg "_law_told" = some (.ref a.f_l_told)
  F_l_told_all : Fun K "_law_told_all" "_law_told_all" s_l_told_all a.f_l_told_all a.d_l_told_all
  mg_l_told_all : mg "_law_told_all" = some (.ref a.f_l_told_all)
  F_law : Fun K "law" "law" s_law a.f_law a.d_law
  mg_law : mg "law" = some (.ref a.f_law)
  mg_Part : mg "Part" = some (.ref a.C_Part)
  kp_Part : PySem.W.keepIn K (.ref a.C_Part) = true
  cl_Part : Cls K a.C_Part
  mk_Part : Mk K a.C_Part a.f_Part_init
  m_Part_plus : Meth K a.C_Part "plus" a.f_Part_plus
  m_Part_times : Meth K a.C_Part "times" a.f_Part_times
  m_Part_sign : Meth K a.C_Part "sign" a.f_Part_sign
  m_Part_eq : Meth K a.C_Part "__eq__" a.f_Part_eq
  na_Part_top : PySem.W.findIn K (.ref a.C_Part) "top" = some none
  na_Part_low : PySem.W.findIn K (.ref a.C_Part) "low" = some none
  mro_Part : PySem.W.mroIn K a.C_Part (.type "object") = some true
  cc_Part : PySem.W.findIn K (.ref a.C_Part) "__class__" = some (some (.builtin "object.__class__"))
  ne_Part : PySem.W.findIn K (.ref a.C_Part) "__ne__" = some (some (.builtin "object.__ne__"))
  kit_Part_Part : PySem.W.kitOne K (.ref a.C_Part) (.ref a.C_Part) = some true
  nf_Part_Part : PySem.W.notFirst K a.C_Part (.ref a.C_Part) = true
  mg_Purse : mg "Purse" = some (.ref a.C_Purse)
  kp_Purse : PySem.W.keepIn K (.ref a.C_Purse) = true
  cl_Purse : Cls K a.C_Purse
  mk_Purse : Mk K a.C_Purse a.f_Purse_init
  m_Purse_at : Meth K a.C_Purse "at" a.f_Purse_at
  m_Purse_coins : Meth K a.C_Purse "coins" a.f_Purse_coins
  m_Purse_plus : Meth K a.C_Purse "plus" a.f_Purse_plus
  m_Purse_minus : Meth K a.C_Purse "minus" a.f_Purse_minus
  m_Purse_times : Meth K a.C_Purse "times" a.f_Purse_times
  m_Purse_rows : Meth K a.C_Purse "_rows" a.f_Purse_rows
  m_Purse_eq : Meth K a.C_Purse "__eq__" a.f_Purse_eq
  na_Purse__held : PySem.W.findIn K (.ref a.C_Purse) "_held" = some none
  mro_Purse : PySem.W.mroIn K a.C_Purse (.type "object") = some true
  cc_Purse : PySem.W.findIn K (.ref a.C_Purse) "__class__" = some (some (.builtin "object.__class__"))
  kit_Purse_Purse : PySem.W.kitOne K (.ref a.C_Purse) (.ref a.C_Purse) = some true
  nf_Purse_Purse : PySem.W.notFirst K a.C_Purse (.ref a.C_Purse) = true
  cget : PySem.W.specialIn K (.builtin "object.__class__") "__get__" = some (some (.builtin "getset_descriptor.__get__"))
  ctk : PySem.W.takesIn K (.builtin "object.__class__") = some true
  sq_t_rows : SqtK K a.t_rows []
  no_abs : mg "abs" = none
  no_all : mg "all" = none
  no_bool : mg "bool" = none
  no_dict : mg "dict" = none
  no_int : mg "int" = none
  no_isinstance : mg "isinstance" = none
  no_len : mg "len" = none
  no_list : mg "list" = none
  no_min : mg "min" = none
  no_range : mg "range" = none
  no_repr : mg "repr" = none
  no_sorted : mg "sorted" = none
  no_str : mg "str" = none
  no_tuple : mg "tuple" = none
  mg_gcd : mg "gcd" = some (.builtin "math.gcd")
section
variable {P : Program} {w : World} {K : PySem.W.Frag} {mg : Str → Option Value} {base : Heap} {a : Adr}
theorem cxK {CX : CXT} {N : List Str} {q : Str} {sc : Scope} {f : Addr} {cdv : Value} {A : Around} {outer : List Env} {s : Shared} {H : Hp} {E : XK} : (cxOf CX P w K mg base N q sc f cdv A outer s H E).K = K := rfl
theorem bnd_Part_init_1 (T : Tx a K mg w) : ∃ ds, Vals (([V.int 1] : List V).drop 0) ds ∧ Binds K a.d_Part_init ps_Part_init ds :=
  T.F_Part_init.binds1 (ps := ps_Part_init) 2 0 (List.cons_ne_nil _ _) rfl fun T kV doc pm an cdv ct us its hl hd => match us, its, hl, hd with | [_, _], [_], _, _ => ⟨_, rfl, rfl⟩
theorem bnd_Part_init_2 (T : Tx a K mg w) : ∃ ds, Vals (([V.int 1] : List V).drop 1) ds ∧ Binds K a.d_Part_init ps_Part_init ds :=
  T.F_Part_init.binds1 (ps := ps_Part_init) 3 1 (List.cons_ne_nil _ _) rfl fun T kV doc pm an cdv ct us its hl hd => match us, its, hl, hd with | [_, _, _], [_], _, _ => ⟨_, rfl, rfl⟩
theorem bnd_Part_plus (T : Tx a K mg w) : Binds K a.d_Part_plus ps_Part_plus [] :=
  T.F_Part_plus.binds (ps := ps_Part_plus) fun _ _ _ _ _ _ us hl => match us, hl with | [_, _], _ => rfl
theorem bnd_Part_times (T : Tx a K mg w) : Binds K a.d_Part_times ps_Part_times [] :=
  T.F_Part_times.binds (ps := ps_Part_times) fun _ _ _ _ _ _ us hl => match us, hl with | [_, _], _ => rfl
theorem bnd_Part_sign (T : Tx a K mg w) : Binds K a.d_Part_sign ps_Part_sign [] :=
  T.F_Part_sign.binds (ps := ps_Part_sign) fun _ _ _ _ _ _ us hl => match us, hl with | [_], _ => rfl
theorem bnd_Part_eq (T : Tx a K mg w) : Binds K a.d_Part_eq ps_Part_eq [] :=
  T.F_Part_eq.binds (ps := ps_Part_eq) fun _ _ _ _ _ _ us hl => match us, hl with | [_, _], _ => rfl
theorem bnd_Purse_init_0 (T : Tx a K mg w) : ∃ ds, Vals (([V.ref a.t_rows] : List V).drop 0) ds ∧ Binds K a.d_Purse_init ps_Purse_init ds :=
  T.F_Purse_init.binds1 (ps := ps_Purse_init) 1 0 (List.cons_ne_nil _ _) rfl fun T kV doc pm an cdv ct us its hl hd => match us, its, hl, hd with | [_], [_], _, _ => ⟨_, rfl, rfl⟩
theorem bnd_Purse_init_1 (T : Tx a K mg w) : ∃ ds, Vals (([V.ref a.t_rows] : List V).drop 1) ds ∧ Binds K a.d_Purse_init ps_Purse_init ds :=
  T.F_Purse_init.binds1 (ps := ps_Purse_init) 2 1 (List.cons_ne_nil _ _) rfl fun T kV doc pm an cdv ct us its hl hd => match us, its, hl, hd with | [_, _], [_], _, _ => ⟨_, rfl, rfl⟩
theorem bnd_Purse_at (T : Tx a K mg w) : Binds K a.d_Purse_at ps_Purse_at [] :=
  T.F_Purse_at.binds (ps := ps_Purse_at) fun _ _ _ _ _ _ us hl => match us, hl with | [_, _], _ => rfl
theorem bnd_Purse_coins (T : Tx a K mg w) : Binds K a.d_Purse_coins ps_Purse_coins [] :=
  T.F_Purse_coins.binds (ps := ps_Purse_coins) fun _ _ _ _ _ _ us hl => match us, hl with | [_], _ => rfl
theorem bnd_Purse_plus (T : Tx a K mg w) : Binds K a.d_Purse_plus ps_Purse_plus [] :=
  T.F_Purse_plus.binds (ps := ps_Purse_plus) fun _ _ _ _ _ _ us hl => match us, hl with | [_, _], _ => rfl
theorem bnd_Purse_minus (T : Tx a K mg w) : Binds K a.d_Purse_minus ps_Purse_minus [] :=
  T.F_Purse_minus.binds (ps := ps_Purse_minus) fun _ _ _ _ _ _ us hl => match us, hl with | [_, _], _ => rfl
theorem bnd_Purse_times (T : Tx a K mg w) : Binds K a.d_Purse_times ps_Purse_times [] :=
  T.F_Purse_times.binds (ps := ps_Purse_times) fun _ _ _ _ _ _ us hl => match us, hl with | [_, _], _ => rfl
theorem bnd_Purse_rows (T : Tx a K mg w) : Binds K a.d_Purse_rows ps_Purse_rows [] :=
  T.F_Purse_rows.binds (ps := ps_Purse_rows) fun _ _ _ _ _ _ us hl => match us, hl with | [_], _ => rfl
theorem bnd_Purse_eq (T : Tx a K mg w) : Binds K a.d_Purse_eq ps_Purse_eq [] :=
  T.F_Purse_eq.binds (ps := ps_Purse_eq) fun _ _ _ _ _ _ us hl => match us, hl with | [_, _], _ => rfl
theorem bnd_inner (T : Tx a K mg w) : Binds K a.d_inner ps_inner [] :=
  T.F_inner.binds (ps := ps_inner) fun _ _ _ _ _ _ us hl => match us, hl with | [_, _], _ => rfl
theorem bnd_cut (T : Tx a K mg w) : Binds K a.d_cut ps_cut [] :=
  T.F_cut.binds (ps := ps_cut) fun _ _ _ _ _ _ us hl => match us, hl with | [_, _], _ => rfl
theorem bnd_cost (T : Tx a K mg w) : ∃ ds, Vals ([V.non] : List V) ds ∧ Binds K a.d_cost ps_cost ds :=
  T.F_cost.binds0 (ps := ps_cost) 2 (List.cons_ne_nil _ _) rfl fun D doc pm an cdv ct us ks h1 h2 => match us, ks, h1, h2 with | [_, _], [_], _, _ => ⟨_, _, _, _, _, _, rfl, rfl, rfl⟩
theorem kbn_cost_since (T : Tx a K mg w) : ∃ mv : List Value, KBn K a.d_cost ps_cost 2 ["since"] (fun us ws => us ++ (ws ++ mv)) (fun vs zs => vs ++ (zs ++ [])) :=
  T.F_cost.kbinds0 (ps := ps_cost) 2 ["since"] [] (fun us mv ws => us ++ (ws ++ mv)) (List.cons_ne_nil _ _) (fun q h => absurd h List.not_mem_nil) (fun r1 r2 r3 => r1.append (r3.append r2)) fun D doc pm an cdv ct us mv ws h1 h2 h3 => match us, mv, ws, h1, h2, h3 with | [_, _], [], [_], _, _, _ => rfl
theorem bnd_fresh (T : Tx a K mg w) : Binds K a.d_fresh ps_fresh [] :=
  T.F_fresh.binds (ps := ps_fresh) fun _ _ _ _ _ _ us hl => match us, hl with | [_, _, _], _ => rfl
theorem bnd_was_under (T : Tx a K mg w) : Binds K a.d_was_under ps_was_under [] :=
  T.F_was_under.binds (ps := ps_was_under) fun _ _ _ _ _ _ us hl => match us, hl with | [_, _, _], _ => rfl
theorem bnd_first_fresh (T : Tx a K mg w) : Binds K a.d_first_fresh ps_first_fresh [] :=
  T.F_first_fresh.binds (ps := ps_first_fresh) fun _ _ _ _ _ _ us hl => match us, hl with | [_, _], _ => rfl
theorem bnd_cost_by_last (T : Tx a K mg w) : Binds K a.d_cost_by_last ps_cost_by_last [] :=
  T.F_cost_by_last.binds (ps := ps_cost_by_last) fun _ _ _ _ _ _ us hl => match us, hl with | [_, _], _ => rfl
theorem bnd_l_cell (T : Tx a K mg w) : Binds K a.d_l_cell ps_l_cell [] :=
  T.F_l_cell.binds (ps := ps_l_cell) fun _ _ _ _ _ _ us hl => match us, hl with | [_, _], _ => rfl
theorem bnd_l_digits (T : Tx a K mg w) : Binds K a.d_l_digits ps_l_digits [] :=
  T.F_l_digits.binds (ps := ps_l_digits) fun _ _ _ _ _ _ us hl => match us, hl with | [_, _, _], _ => rfl
theorem bnd_l_names (T : Tx a K mg w) : Binds K a.d_l_names ps_l_names [] :=
  T.F_l_names.binds (ps := ps_l_names) fun _ _ _ _ _ _ us hl => match us, hl with | [_, _, _], _ => rfl
theorem bnd_l_path (T : Tx a K mg w) : Binds K a.d_l_path ps_l_path [] :=
  T.F_l_path.binds (ps := ps_l_path) fun _ _ _ _ _ _ us hl => match us, hl with | [_, _, _, _], _ => rfl
theorem bnd_l_since (T : Tx a K mg w) : Binds K a.d_l_since ps_l_since [] :=
  T.F_l_since.binds (ps := ps_l_since) fun _ _ _ _ _ _ us hl => match us, hl with | [_, _, _], _ => rfl
theorem bnd_l_frac (T : Tx a K mg w) : Binds K a.d_l_frac ps_l_frac [] :=
  T.F_l_frac.binds (ps := ps_l_frac) fun _ _ _ _ _ _ us hl => match us, hl with | [_, _], _ => rfl
theorem bnd_l_plus (T : Tx a K mg w) : Binds K a.d_l_plus ps_l_plus [] :=
  T.F_l_plus.binds (ps := ps_l_plus) fun _ _ _ _ _ _ us hl => match us, hl with | [_, _], _ => rfl
theorem bnd_l_add (T : Tx a K mg w) : Binds K a.d_l_add ps_l_add [] :=
  T.F_l_add.binds (ps := ps_l_add) fun _ _ _ _ _ _ us hl => match us, hl with | [_, _, _, _], _ => rfl
theorem bnd_l_due (T : Tx a K mg w) : Binds K a.d_l_due ps_l_due [] :=
  T.F_l_due.binds (ps := ps_l_due) fun _ _ _ _ _ _ us hl => match us, hl with | [_], _ => rfl
theorem bnd_l_inner (T : Tx a K mg w) : Binds K a.d_l_inner ps_l_inner [] :=
  T.F_l_inner.binds (ps := ps_l_inner) fun _ _ _ _ _ _ us hl => match us, hl with | [_, _], _ => rfl
theorem bnd_l_same (T : Tx a K mg w) : Binds K a.d_l_same ps_l_same [] :=
  T.F_l_same.binds (ps := ps_l_same) fun _ _ _ _ _ _ us hl => match us, hl with | [_, _], _ => rfl
theorem bnd_l_whole (T : Tx a K mg w) : Binds K a.d_l_whole ps_l_whole [] :=
  T.F_l_whole.binds (ps := ps_l_whole) fun _ _ _ _ _ _ us hl => match us, hl with | [_], _ => rfl
theorem bnd_l_told (T : Tx a K mg w) : Binds K a.d_l_told ps_l_told [] :=
  T.F_l_told.binds (ps := ps_l_told) fun _ _ _ _ _ _ us hl => match us, hl with | [_], _ => rfl
theorem bnd_l_told_all (T : Tx a K mg w) : Binds K a.d_l_told_all ps_l_told_all [] :=
  T.F_l_told_all.binds (ps := ps_l_told_all) fun _ _ _ _ _ _ us hl => match us, hl with | [_], _ => rfl
theorem bnd_law (T : Tx a K mg w) : Binds K a.d_law ps_law [] :=
  T.F_law.binds (ps := ps_law) fun _ _ _ _ _ _ us hl => match us, hl with | [_], _ => rfl
/-! ### _law_cell -/
def spCell (K : PySem.W.Frag) : Sp := fun vs H Q _ => ∃ (l : Addr) (ns : List Int) (k : Int), vs = [.ref l, .int k] ∧ SqL K H l (ns.map V.int) ∧ ns.length ≤ 63 ∧ 0 ≤ k ∧ k < 1000000 ∧ ∀ c : Int, Q (.int c) H
theorem ok_l_cell (T : Tx a K mg w) : FnOk P w K mg base CX0 1 a.f_l_cell a.d_l_cell ps_l_cell (spCell K) := by
  refine T.F_l_cell.ok sc_l_cell (fun vs H Q E h => ?_) (fun cdv A outer s H vs Q E hr h => ?_)
  · obtain ⟨l, ns, k, rfl, _⟩ := h
    rfl
  · obtain ⟨l, ns, k, rfl, hs, hn, h0, h1, q⟩ := h
    refine ⟨_, (pss_cons (ps_if (pt_cmpR op_lt (pv 1) (pe_callB call_len_seq (by rfl) T.no_len (by decide +kernel) (pa_cons (pv 0) pa_nil)) (nomark _)) (pss_one (ps_ret (pe_ix ix_list (pv 0) (pv 1) (fun _ _ => rfl)))) pss_nil)
      (pss_cons (ps_set (i := 2) sc_l_cell.nd rfl (by first | exact Or.inl rfl | exact Or.inr rfl) pe_int)
      (pss_cons (ps_for PassesOwn.never rfl (pi_list (pv 0)) (pg_name (i := 3) sc_l_cell.nd rfl (by first | exact Or.inl rfl | exact Or.inr rfl))
        (pss_one (ps_set (i := 2) sc_l_cell.nd rfl (by first | exact Or.inl rfl | exact Or.inr rfl) (pe_op op_mod (pe_op op_add (pe_op op_mulW (pv 2) pe_int) (pv 3)) pe_int))))
      (pss_one (ps_ret (pe_op op_mod (pe_op op_mulW (pe_op op_mulW (pe_op op_add (pv 2) pe_int) (pe_op op_add (pv 1) pe_int)) pe_int) pe_int)))))), ?_⟩
    show tSeq _ _ _ [some (V.ref l), some (V.int k), none, none] H
    simp only [tSeq, tIfS, tOp, tVar, tC, tCB, tCons, tNil, rI0, rI, tTest, tRet, tRetN, tNext, tAsg, gName, gNil, gCons, gTup, gUnl, tLst, tTup, tCall, tMeth, tMake, tUn, rU, tAndV, tOrV, tNotV, tAnd, tOr, tNot, tIf, tB, tFld, tDrop, tPar, tNever, tBM, rAppend, tSl, tPart, tNoPart, tM1, tyLst, List.getElem?_cons_zero, List.getElem?_cons_succ, Option.some.injEq, exists_eq_left', exists_eq_left, V.int.injEq, V.bl.injEq, V.str.injEq, V.ref.injEq, List.set_cons_zero, List.set_cons_succ, exists_and_left, exists_and_right, and_assoc, List.cons.injEq, and_true, true_and, List.cons_append, List.nil_append, List.append_nil, List.length_cons, List.length_nil, exists_eq', exists_eq, exists_const, exists_eq_right, exists_eq_right', cxK, Cx.nox, Cx.wish]
    refine ⟨_, .inl hs, ?_⟩
    rw [List.length_map]
    refine ite2 (fun hk => ?_) (fun hk => ?_)
    · have hk := of_decide_eq_true hk
      simp only [rIxL, tSeq, tIfS, tOp, tVar, tC, tCB, tCons, tNil, rI0, rI, tTest, tRet, tRetN, tNext, tAsg, gName, gNil, gCons, gTup, gUnl, tLst, tTup, tCall, tMeth, tMake, tUn, rU, tAndV, tOrV, tNotV, tAnd, tOr, tNot, tIf, tB, tFld, tDrop, tPar, tNever, tBM, rAppend, tSl, tPart, tNoPart, tM1, tyLst, List.getElem?_cons_zero, List.getElem?_cons_succ, Option.some.injEq, exists_eq_left', exists_eq_left, V.int.injEq, V.bl.injEq, V.str.injEq, V.ref.injEq, List.set_cons_zero, List.set_cons_succ, exists_and_left, exists_and_right, and_assoc, List.cons.injEq, and_true, true_and, List.cons_append, List.nil_append, List.append_nil, List.length_cons, List.length_nil, exists_eq', exists_eq, exists_const, exists_eq_right, exists_eq_right', cxK, Cx.nox, Cx.wish]
      obtain ⟨v, hv, e⟩ := atI_lt (xs := ns) h0 hk
      exact ⟨_, hs, .int v, atI_map e, q v⟩
    · refine for_listI (a := l) (xs := ns.map V.int) rfl hs (fun i σ H' => H' = H ∧ ∃ (b : Int) (v : Option V), σ = [some (V.ref l), some (V.int k), some (V.int b), v] ∧ b.natAbs < 2 ^ 62) ⟨rfl, 17, none, rfl, by decide⟩ (fun i σ H' _ hh => hh.1 ▸ hs) ?_ ?_
      · rintro i x σ H' hx ⟨rfl, b, v, rfl, hb⟩
        obtain ⟨z, rfl⟩ : ∃ z, x = V.int z := by
          obtain ⟨z, _, e⟩ := List.mem_map.mp (List.mem_of_getElem? hx)
          exact ⟨z, e.symm⟩
        simp only [tSeq, tIfS, tOp, tVar, tC, tCB, tCons, tNil, rI0, rI, tTest, tRet, tRetN, tNext, tAsg, gName, gNil, gCons, gTup, gUnl, tLst, tTup, tCall, tMeth, tMake, tUn, rU, tAndV, tOrV, tNotV, tAnd, tOr, tNot, tIf, tB, tFld, tDrop, tPar, tNever, tBM, rAppend, tSl, tPart, tNoPart, tM1, tyLst, List.getElem?_cons_zero, List.getElem?_cons_succ, Option.some.injEq, exists_eq_left', exists_eq_left, V.int.injEq, V.bl.injEq, V.str.injEq, V.ref.injEq, List.set_cons_zero, List.set_cons_succ, exists_and_left, exists_and_right, and_assoc, List.cons.injEq, and_true, true_and, List.cons_append, List.nil_append, List.append_nil, List.length_cons, List.length_nil, exists_eq', exists_eq, exists_const, exists_eq_right, exists_eq_right', cxK, Cx.nox, Cx.wish]
        exact ⟨mulW64 (by omega) (by decide), by decide, by omega⟩
      · rintro σ H' ⟨rfl, b, v, rfl, hb⟩
        simp only [tSeq, tIfS, tOp, tVar, tC, tCB, tCons, tNil, rI0, rI, tTest, tRet, tRetN, tNext, tAsg, gName, gNil, gCons, gTup, gUnl, tLst, tTup, tCall, tMeth, tMake, tUn, rU, tAndV, tOrV, tNotV, tAnd, tOr, tNot, tIf, tB, tFld, tDrop, tPar, tNever, tBM, rAppend, tSl, tPart, tNoPart, tM1, tyLst, List.getElem?_cons_zero, List.getElem?_cons_succ, Option.some.injEq, exists_eq_left', exists_eq_left, V.int.injEq, V.bl.injEq, V.str.injEq, V.ref.injEq, List.set_cons_zero, List.set_cons_succ, exists_and_left, exists_and_right, and_assoc, List.cons.injEq, and_true, true_and, List.cons_append, List.nil_append, List.append_nil, List.length_cons, List.length_nil, exists_eq', exists_eq, exists_const, exists_eq_right, exists_eq_right', cxK, Cx.nox, Cx.wish]
        refine ⟨mulW64 (by omega) (by omega), mulWn 128 64 ?_ (by decide) (by decide) (by decide) (by decide), by decide, q _⟩
        exact mul_lt 64 64 (by omega) (by omega)

/-! ### _law_digits -/
def spDigits (K : PySem.W.Frag) : Sp := fun vs H Q _ => ∃ (l z : Addr) (ns szs : List Int) (k : Int), vs = [.ref l, .int k, .ref z] ∧ SqL K H l (ns.map V.int) ∧ ns.length ≤ 63 ∧ 0 ≤ k ∧ k < 1000000 ∧ SqL K H z (szs.map V.int) ∧ szs.length ≤ 64 ∧ (∀ y ∈ szs, 0 < y ∧ y < 1073741824) ∧
  ∀ (ds : List Int) (p : Addr), Drawn ds szs → H p = none → Q (.ref p) (upd H p (.lst (ds.map V.int)))
theorem ok_l_digits (T : Tx a K mg w) : FnOk P w K mg base CX0 2 a.f_l_digits a.d_l_digits ps_l_digits (spDigits K) := by
  refine T.F_l_digits.ok sc_l_digits (fun vs H Q E h => ?_) (fun cdv A outer s H vs Q E hr h => ?_)
  · obtain ⟨l, z, ns, szs, k, rfl, _⟩ := h
    rfl
  · obtain ⟨l, z, ns, szs, k, rfl, hs, hn, h0, h1, hz, hzl, hzb, q⟩ := h
    have G_l_cell := ok_l_cell (P := P) (w := w) (base := base) T
    have B_l_cell := bnd_l_cell T
    have hr_l_cell : Room 1 _ := hr
    refine ⟨_, (pss_cons (ps_set (i := 3) sc_l_digits.nd rfl (by first | exact Or.inl rfl | exact Or.inr rfl) (pe_call G_l_cell hr_l_cell (by rfl) T.mg_l_cell T.F_l_cell.kp B_l_cell .nil pass0 (pa_cons (pv 0) (pa_cons (pv 1) pa_nil))))
      (pss_cons (ps_set (i := 4) sc_l_digits.nd rfl (by first | exact Or.inl rfl | exact Or.inr rfl) (pe_lst pa_nil))
      (pss_cons (ps_if (pt_cmpR op_ge (pv 3) (pe_op op_pow pe_int pe_int) (nomark _)) (pss_cons (ps_set (i := 5) sc_l_digits.nd rfl (by first | exact Or.inl rfl | exact Or.inr rfl) (pe_op op_sub (pv 3) (pe_op op_pow pe_int pe_int)))
        (pss_cons (ps_for PassesOwn.never rfl (pi_list (pv 2)) (pg_name (i := 6) sc_l_digits.nd rfl (by first | exact Or.inl rfl | exact Or.inr rfl))
          (pss_cons (ps_expr (pe_bm PySem.F.plainAttrs_list PySem.F.slot_list_append PySem.F.type_list_append mt_append (pv 4) (pa_cons (pe_op op_mod (pv 5) (pv 6)) pa_nil)))
          (pss_one (ps_set (i := 5) sc_l_digits.nd rfl (by first | exact Or.inl rfl | exact Or.inr rfl) (pe_op op_fdivA (pv 5) (pv 6))))))
        (pss_one (ps_ret (pv 4))))) pss_nil)
      (pss_cons (ps_set (i := 7) sc_l_digits.nd rfl (by first | exact Or.inl rfl | exact Or.inr rfl) (pe_op op_mod (pv 3) pe_int))
      (pss_cons (ps_for PassesOwn.never rfl (pi_range1 rfl T.no_range (pa_cons (pe_callB call_len_seq (by rfl) T.no_len (by decide +kernel) (pa_cons (pv 2) pa_nil)) pa_nil)) (pg_name (i := 8) sc_l_digits.nd rfl (by first | exact Or.inl rfl | exact Or.inr rfl))
        (pss_cons (ps_set (i := 7) sc_l_digits.nd rfl (by first | exact Or.inl rfl | exact Or.inr rfl) (pe_op op_mod (pe_op op_add (pe_op op_mulW (pv 7) pe_int) (pe_op op_mulW pe_int (pe_op op_add (pv 8) pe_int))) pe_int))
        (pss_cons (ps_set (i := 9) sc_l_digits.nd rfl (by first | exact Or.inl rfl | exact Or.inr rfl) (pe_op op_mod (pe_op op_add (pe_op op_add (pe_op op_mulW (pv 7) (pv 7)) (pe_op op_mulW pe_int (pv 7))) (pv 8)) pe_int))
        (pss_one (ps_expr (pe_bm PySem.F.plainAttrs_list PySem.F.slot_list_append PySem.F.type_list_append mt_append (pv 4) (pa_cons (pe_op op_mod (pe_op op_fdivA (pv 9) pe_int) (pe_ix ix_list (pv 2) (pv 8) (fun _ _ => rfl))) pa_nil)))))))
      (pss_one (ps_ret (pv 4)))))))), ?_⟩
    show tSeq _ _ _ [some (V.ref l), some (V.int k), some (V.ref z), none, none, none, none, none, none, none] H
    simp only [tSeq, tIfS, tOp, tVar, tC, tCB, tCons, tNil, rI0, rI, tTest, tRet, tRetN, tNext, tAsg, gName, gNil, gCons, gTup, gUnl, tLst, tTup, tCall, tMeth, tMake, tUn, rU, tAndV, tOrV, tNotV, tAnd, tOr, tNot, tIf, tB, tFld, tDrop, tPar, tNever, tBM, rAppend, tSl, tPart, tNoPart, tM1, tyLst, List.getElem?_cons_zero, List.getElem?_cons_succ, Option.some.injEq, exists_eq_left', exists_eq_left, V.int.injEq, V.bl.injEq, V.str.injEq, V.ref.injEq, List.set_cons_zero, List.set_cons_succ, exists_and_left, exists_and_right, and_assoc, List.cons.injEq, and_true, true_and, List.cons_append, List.nil_append, List.append_nil, List.length_cons, List.length_nil, exists_eq', exists_eq, exists_const, exists_eq_right, exists_eq_right', cxK, Cx.nox, Cx.wish]
    refine ⟨l, ns, k, rfl, hs, hn, h0, h1, fun c => ?_⟩
    refine ⟨by decide, fun p hp => ?_⟩
    have key : ∀ (y : Int) (ds : List Int) (i : Nat), szs[i]? = some y → Drawn ds (szs.take i) → ∀ d : Int, 0 ≤ d → d < y → Drawn (ds ++ [d]) (szs.take (i + 1)) := fun y ds i hy hd d h1 h2 => by
      rw [take_snoc hy]
      exact PySem.Paired.snoc hd ⟨h1, h2⟩
    have dl : ∀ {ds : List Int} {i : Nat}, Drawn ds (szs.take i) → ds.length < sizeLine := fun {ds i} hd => by
      have h1 : ds.length = (szs.take i).length := Paired.length hd
      rw [List.length_take] at h1
      have h2 : sizeLine = 16777216 := rfl
      omega
    have hpz : ∀ u, SqL K (upd H p u) z (szs.map V.int) := fun u => seqL hz (Ext.upd hp)
    simp only [tSeq, tIfS, tOp, tVar, tC, tCB, tCons, tNil, rI0, rI, tTest, tRet, tRetN, tNext, tAsg, gName, gNil, gCons, gTup, gUnl, tLst, tTup, tCall, tMeth, tMake, tUn, rU, tAndV, tOrV, tNotV, tAnd, tOr, tNot, tIf, tB, tFld, tDrop, tPar, tNever, tBM, rAppend, tSl, tPart, tNoPart, tM1, tyLst, List.getElem?_cons_zero, List.getElem?_cons_succ, Option.some.injEq, exists_eq_left', exists_eq_left, V.int.injEq, V.bl.injEq, V.str.injEq, V.ref.injEq, List.set_cons_zero, List.set_cons_succ, exists_and_left, exists_and_right, and_assoc, List.cons.injEq, and_true, true_and, List.cons_append, List.nil_append, List.append_nil, List.length_cons, List.length_nil, exists_eq', exists_eq, exists_const, exists_eq_right, exists_eq_right', cxK, Cx.nox, Cx.wish]
    refine ⟨⟨by decide, by decide, by decide⟩, ite2 (fun hb => ?_) (fun hb => ?_)⟩
    · refine ⟨⟨by decide, by decide, by decide⟩, ?_⟩
      refine for_listI (a := z) (xs := szs.map V.int) rfl (hpz _) (fun i σ H' => ∃ (r : Int) (v : Option V) (ds : List Int), σ = [some (V.ref l), some (V.int k), some (V.ref z), some (V.int c), some (V.ref p), some (V.int r), v, none, none, none] ∧ H' = upd H p (.lst (ds.map V.int)) ∧ Drawn ds (szs.take i))
        ⟨_, none, [], rfl, rfl, .nil⟩ (fun i σ H' _ ⟨_, _, _, _, hh, _⟩ => hh ▸ hpz _) ?_ ?_
      · rintro i x σ H' hx ⟨r, v, ds, rfl, rfl, hd⟩
        obtain ⟨y, hy, rfl⟩ : ∃ y, szs[i]? = some y ∧ x = V.int y := by
          rw [List.getElem?_map] at hx
          cases e : szs[i]? with
          | none => rw [e] at hx; cases hx
          | some y => rw [e] at hx; exact ⟨y, rfl, (Option.some.inj hx).symm⟩
        have hyb := hzb y (List.mem_of_getElem? hy)
        simp only [tSeq, tIfS, tOp, tVar, tC, tCB, tCons, tNil, rI0, rI, tTest, tRet, tRetN, tNext, tAsg, gName, gNil, gCons, gTup, gUnl, tLst, tTup, tCall, tMeth, tMake, tUn, rU, tAndV, tOrV, tNotV, tAnd, tOr, tNot, tIf, tB, tFld, tDrop, tPar, tNever, tBM, rAppend, tSl, tPart, tNoPart, tM1, tyLst, List.getElem?_cons_zero, List.getElem?_cons_succ, Option.some.injEq, exists_eq_left', exists_eq_left, V.int.injEq, V.bl.injEq, V.str.injEq, V.ref.injEq, List.set_cons_zero, List.set_cons_succ, exists_and_left, exists_and_right, and_assoc, List.cons.injEq, and_true, true_and, List.cons_append, List.nil_append, List.append_nil, List.length_cons, List.length_nil, exists_eq', exists_eq, exists_const, exists_eq_right, exists_eq_right', cxK, Cx.nox, Cx.wish]
        refine ⟨tyLst upd_same, hyb.1, _, upd_same, by rw [List.length_map]; exact dl hd, divA_of 64 (by omega) (by omega) (by decide) (by decide), ds ++ [r % y], ?_, key y ds i hy hd _ (Int.emod_nonneg _ (by omega)) (Int.emod_lt_of_pos _ hyb.1)⟩
        rw [upd_upd, List.map_append]
        rfl
      · rintro σ H' ⟨r, v, ds, rfl, rfl, hd⟩
        simp only [tSeq, tIfS, tOp, tVar, tC, tCB, tCons, tNil, rI0, rI, tTest, tRet, tRetN, tNext, tAsg, gName, gNil, gCons, gTup, gUnl, tLst, tTup, tCall, tMeth, tMake, tUn, rU, tAndV, tOrV, tNotV, tAnd, tOr, tNot, tIf, tB, tFld, tDrop, tPar, tNever, tBM, rAppend, tSl, tPart, tNoPart, tM1, tyLst, List.getElem?_cons_zero, List.getElem?_cons_succ, Option.some.injEq, exists_eq_left', exists_eq_left, V.int.injEq, V.bl.injEq, V.str.injEq, V.ref.injEq, List.set_cons_zero, List.set_cons_succ, exists_and_left, exists_and_right, and_assoc, List.cons.injEq, and_true, true_and, List.cons_append, List.nil_append, List.append_nil, List.length_cons, List.length_nil, exists_eq', exists_eq, exists_const, exists_eq_right, exists_eq_right', cxK, Cx.nox, Cx.wish]
        rw [List.length_map, List.take_length] at hd
        exact q ds p hd hp
    · refine ⟨by decide, ?_⟩
      refine for_rangeI (n := (szs.length : Int)) (fun R r => ?_) (by omega) (by omega) (fun i σ H' => ∃ (o : Int) (v u : Option V) (ds : List Int), σ = [some (V.ref l), some (V.int k), some (V.ref z), some (V.int c), some (V.ref p), none, none, some (V.int o), v, u] ∧ o.natAbs < 2 ^ 31 ∧ H' = upd H p (.lst (ds.map V.int)) ∧ Drawn ds (szs.take i))
        ⟨_, none, none, [], rfl, by omega, rfl, .nil⟩ ?_ ?_
      · simp only [tSeq, tIfS, tOp, tVar, tC, tCB, tCons, tNil, rI0, rI, tTest, tRet, tRetN, tNext, tAsg, gName, gNil, gCons, gTup, gUnl, tLst, tTup, tCall, tMeth, tMake, tUn, rU, tAndV, tOrV, tNotV, tAnd, tOr, tNot, tIf, tB, tFld, tDrop, tPar, tNever, tBM, rAppend, tSl, tPart, tNoPart, tM1, tyLst, List.getElem?_cons_zero, List.getElem?_cons_succ, Option.some.injEq, exists_eq_left', exists_eq_left, V.int.injEq, V.bl.injEq, V.str.injEq, V.ref.injEq, List.set_cons_zero, List.set_cons_succ, exists_and_left, exists_and_right, and_assoc, List.cons.injEq, and_true, true_and, List.cons_append, List.nil_append, List.append_nil, List.length_cons, List.length_nil, exists_eq', exists_eq, exists_const, exists_eq_right, exists_eq_right', cxK, Cx.nox, Cx.wish]
        refine ⟨_, .inl (hpz _), ?_⟩
        rw [List.length_map]
        exact r
      · rintro i σ H' hi ⟨o, v, u, ds, rfl, ho, rfl, hd⟩
        rw [Int.toNat_natCast] at hi
        have hy : szs[i]? = some szs[i] := List.getElem?_eq_getElem hi
        have hyb := hzb szs[i] (List.getElem_mem hi)
        have hat : atI (szs.map V.int) (0 + (i : Int)) = some (V.int szs[i]) := by
          rw [Int.zero_add]
          exact atI_map (Own.atI_nat hy)
        simp only [rIxL, tSeq, tIfS, tOp, tVar, tC, tCB, tCons, tNil, rI0, rI, tTest, tRet, tRetN, tNext, tAsg, gName, gNil, gCons, gTup, gUnl, tLst, tTup, tCall, tMeth, tMake, tUn, rU, tAndV, tOrV, tNotV, tAnd, tOr, tNot, tIf, tB, tFld, tDrop, tPar, tNever, tBM, rAppend, tSl, tPart, tNoPart, tM1, tyLst, List.getElem?_cons_zero, List.getElem?_cons_succ, Option.some.injEq, exists_eq_left', exists_eq_left, V.int.injEq, V.bl.injEq, V.str.injEq, V.ref.injEq, List.set_cons_zero, List.set_cons_succ, exists_and_left, exists_and_right, and_assoc, List.cons.injEq, and_true, true_and, List.cons_append, List.nil_append, List.append_nil, List.length_cons, List.length_nil, exists_eq', exists_eq, exists_const, exists_eq_right, exists_eq_right', cxK, Cx.nox, Cx.wish]
        refine ⟨mulW64 (by omega) (by decide), mulW64 (by decide) (by omega), by decide, mulW64 (by omega) (by omega), mulW64 (by decide) (by omega), by decide, tyLst upd_same, divA_of 64 (by decide) (by decide) (by decide) (by decide), _, hpz _, _, hat, ?_⟩
        refine ⟨_, rfl, hyb.1, _, upd_same, by rw [List.length_map]; exact dl hd, by omega, ?_⟩
        generalize hX : Int.fdiv _ 11 = x
        refine ⟨ds ++ [x % szs[i]], ?_, key _ ds i hy hd _ (Int.emod_nonneg _ (by omega)) (Int.emod_lt_of_pos _ hyb.1)⟩
        rw [upd_upd, List.map_append]
        rfl
      · rintro σ H' ⟨o, v, u, ds, rfl, ho, rfl, hd⟩
        simp only [tSeq, tIfS, tOp, tVar, tC, tCB, tCons, tNil, rI0, rI, tTest, tRet, tRetN, tNext, tAsg, gName, gNil, gCons, gTup, gUnl, tLst, tTup, tCall, tMeth, tMake, tUn, rU, tAndV, tOrV, tNotV, tAnd, tOr, tNot, tIf, tB, tFld, tDrop, tPar, tNever, tBM, rAppend, tSl, tPart, tNoPart, tM1, tyLst, List.getElem?_cons_zero, List.getElem?_cons_succ, Option.some.injEq, exists_eq_left', exists_eq_left, V.int.injEq, V.bl.injEq, V.str.injEq, V.ref.injEq, List.set_cons_zero, List.set_cons_succ, exists_and_left, exists_and_right, and_assoc, List.cons.injEq, and_true, true_and, List.cons_append, List.nil_append, List.append_nil, List.length_cons, List.length_nil, exists_eq', exists_eq, exists_const, exists_eq_right, exists_eq_right', cxK, Cx.nox, Cx.wish]
        rw [Int.toNat_natCast, List.take_length] at hd
        exact q ds p hd hp

/-! ### _law_names -/
/-- names as a world may have them -/
structure Good (ns : List Str) : Prop where
  each : ∀ n ∈ ns, ∃ k, Let n k ∧ 1 ≤ k ∧ k ≤ 6
  nd : ns.Nodup
def spNames (K : PySem.W.Frag) : Sp := fun vs H Q _ => ∃ (l : Addr) (ns : List Int) (k m : Int), vs = [.ref l, .int k, .int m] ∧ SqL K H l (ns.map V.int) ∧ ns.length ≤ 63 ∧ 0 ≤ k ∧ k < 900000 ∧ 0 ≤ m ∧ m ≤ 12 ∧
  ∀ (zs : List Str) (p : Addr) H', Good zs → (zs.length : Int) = m → Ext H H' → H' p = some (.lst (zs.map V.str)) → H p = none → Q (.ref p) H'
theorem ok_l_names (T : Tx a K mg w) : FnOk P w K mg base CX0 3 a.f_l_names a.d_l_names ps_l_names (spNames K) := by
  refine T.F_l_names.ok sc_l_names (fun vs H Q E h => ?_) (fun cdv A outer s H vs Q E hr h => ?_)
  · obtain ⟨l, ns, k, m, rfl, _⟩ := h
    rfl
  · obtain ⟨l, ns, k, m, rfl, hs, hn, h0, h1, m0, m1, q⟩ := h
    have G_l_digits := ok_l_digits (P := P) (w := w) (base := base) T
    have B_l_digits := bnd_l_digits T
    have hr_l_digits : Room 2 _ := hr.mono (by decide)
    refine ⟨_, (pss_cons (ps_asg (pe_tup (pa_cons (pe_lst pa_nil) (pa_cons pe_str pa_nil))) (pg_tup rfl (pgs_cons (pg_name (i := 3) sc_l_names.nd rfl (by first | exact Or.inl rfl | exact Or.inr rfl)) (pgs_cons (pg_name (i := 4) sc_l_names.nd rfl (by first | exact Or.inl rfl | exact Or.inr rfl)) pgs_nil)) (by rfl)))
      (pss_cons (ps_for PassesOwn.never rfl (pi_range1 rfl T.no_range (pa_cons (pv 2) pa_nil)) (pg_name (i := 5) sc_l_names.nd rfl (by first | exact Or.inl rfl | exact Or.inr rfl))
        (pss_cons (ps_asg (pe_call G_l_digits hr_l_digits (by rfl) T.mg_l_digits T.F_l_digits.kp B_l_digits .nil pass0 (pa_cons (pv 0) (pa_cons (pe_op op_add (pv 1) (pe_op op_mod (pv 5) pe_int)) (pa_cons (pe_lst (pa_cons pe_int (pa_cons pe_int (pa_cons pe_int (pa_cons pe_int pa_nil))))) pa_nil)))) (pg_unl rfl (pgs_cons (pg_name (i := 6) sc_l_names.nd rfl (by first | exact Or.inl rfl | exact Or.inr rfl)) (pgs_cons (pg_name (i := 7) sc_l_names.nd rfl (by first | exact Or.inl rfl | exact Or.inr rfl)) (pgs_cons (pg_name (i := 8) sc_l_names.nd rfl (by first | exact Or.inl rfl | exact Or.inr rfl)) (pgs_cons (pg_name (i := 9) sc_l_names.nd rfl (by first | exact Or.inl rfl | exact Or.inr rfl)) pgs_nil)))) (by rfl)))
        (pss_cons (ps_set (i := 10) sc_l_names.nd rfl (by first | exact Or.inl rfl | exact Or.inr rfl) (pe_joinN pe_str (pe_lc (own := [("_law_i", 12)]) rfl sc_l_names.nd (pi_range1 rfl T.no_range (pa_cons (pv 8) pa_nil)) (blkOk_by (own := [("_law_i", 12)]) (N := N_l_names) (sc := defScope s_l_names) (by decide +kernel)) (fun _ _ _ _ _ => (pg_name (i := 12) sc_l_names.nd rfl (Or.inl rfl))) (fun _ _ _ _ _ => pts_nil) (fun _ _ _ _ _ => (pe_ix ix_str (pv 4) (pe_op op_mod (pe_op op_add (pe_op op_add (pv 6) (pe_op op_mulW (pv 12) (pv 7))) (pe_op op_mulW pe_int (pv 5))) pe_int) (fun _ _ => rfl))))))
        (pss_cons (ps_set (i := 11) sc_l_names.nd rfl (by first | exact Or.inl rfl | exact Or.inr rfl) (pe_op op_add_str (pe_op op_add_str (pe_slice sl_str (pv 10) po_none (po_some (pv 9))) (pe_ix ix_str (pv 4) (pe_op op_mod (pe_op op_add (pe_op op_add (pv 6) (pe_op op_mulW pe_int (pv 5))) pe_int) pe_int) (fun _ _ => rfl))) (pe_slice sl_str (pv 10) (po_some (pv 9)) po_none)))
        (pss_cons (ps_if (pt_cmpR op_in_seq (pv 11) (pv 3) (by rfl)) (pss_one (ps_set (i := 11) sc_l_names.nd rfl (by first | exact Or.inl rfl | exact Or.inr rfl) (pe_ix ix_list (pe_lc (own := [("_law_tail", 13)]) rfl sc_l_names.nd (pi_str pe_str) (blkOk_by (own := [("_law_tail", 13)]) (N := N_l_names) (sc := defScope s_l_names) (by decide +kernel)) (fun _ _ _ _ _ => (pg_name (i := 13) sc_l_names.nd rfl (Or.inl rfl))) (fun _ _ _ _ _ => (pts_one (pt_cmpR (notInK (K := K) rfl) (pe_op op_add_str (pe_op op_add_str pe_str (pe_ix ix_str (pv 4) (pv 5) (fun _ _ => rfl))) (pv 13)) (pv 3) (by rfl)))) (fun _ _ _ _ _ => (pe_op op_add_str (pe_op op_add_str pe_str (pe_ix ix_str (pv 4) (pv 5) (fun _ _ => rfl))) (pv 13)))) pe_int (fun _ _ => rfl)))) pss_nil)
        (pss_one (ps_expr (pe_bm PySem.F.plainAttrs_list PySem.F.slot_list_append PySem.F.type_list_append mt_append (pv 3) (pa_cons (pv 11) pa_nil)))))))))
      (pss_one (ps_ret (pv 3))))), ?_⟩
    show tSeq _ _ _ (L2.start N_l_names _) H
    refine seq_i fun N hN => ?_
    simp only [tSeq, tIfS, tOp, tVar, tC, tCB, tCons, tNil, rI0, rI, tTest, tRet, tRetN, tNext, tAsg, gName, gNil, gCons, gTup, gUnl, tLst, tTup, tCall, tMeth, tMake, tUn, rU, tAndV, tOrV, tNotV, tAnd, tOr, tNot, tIf, tB, tFld, tDrop, tPar, tNever, tBM, rAppend, tSl, tPart, tNoPart, tM1, tyLst, List.getElem?_cons_zero, List.getElem?_cons_succ, Option.some.injEq, exists_eq_left', exists_eq_left, V.int.injEq, V.bl.injEq, V.str.injEq, V.ref.injEq, List.set_cons_zero, List.set_cons_succ, exists_and_left, exists_and_right, and_assoc, List.cons.injEq, and_true, true_and, List.cons_append, List.nil_append, List.append_nil, List.length_cons, List.length_nil, exists_eq', exists_eq, exists_const, exists_eq_right, exists_eq_right', cxK, Cx.nox, Cx.wish]
    refine ⟨by decide, fun pf hpf => ⟨by decide, fun pt hpt => ?_⟩⟩
    generalize hH1 : upd H pf _ = H1 at hpt ⊢
    obtain ⟨e1, f1⟩ := alloc hpf hH1
    generalize hH2 : upd H1 pt _ = H2
    obtain ⟨e2, f2⟩ := alloc hpt hH2
    refine ⟨_, ofT f2, rfl, _, _, rfl, _, _, rfl, rfl, hN _ _ ?_⟩
    clear hN N
    have eH2 : Ext H H2 := e1.trans e2
    have fp2 : H2 pf = some (.lst []) := e2 _ _ f1
    clear hH1 hH2 f2 hpt e1 e2 f1
    refine seq_i fun N hN => ?_
    refine for_rangeI (n := m) (fun R r => ⟨_, rfl, r⟩) m0 (by omega) (fun j σ H' => (∃ v5 v6 v7 v8 v9 v10 v11 v12 v13, σ = [some (V.ref l), some (V.int k), some (V.int m), some (V.ref pf), some (V.str abc), v5, v6, v7, v8, v9, v10, v11, v12, v13]) ∧
        Ext H H' ∧ ∃ zs : List Str, Good zs ∧ zs.length = j ∧ H' pf = some (.lst (zs.map V.str)))
      ⟨⟨none, none, none, none, none, none, none, none, none, rfl⟩, eH2, [], ⟨fun n hn => absurd hn List.not_mem_nil, List.nodup_nil⟩, rfl, fp2⟩ ?_ ?_
    · rintro j σ H3 hj ⟨⟨v5, v6, v7, v8, v9, v10, v11, v12, v13, rfl⟩, eH, zs, hg, hl, hf⟩
      have hjm : (j : Int) < m := by omega
      show tSeq _ _ _ [some (V.ref l), some (V.int k), some (V.int m), some (V.ref pf), some (V.str abc), some (V.int (0 + (j : Int))), v6, v7, v8, v9, v10, v11, v12, v13] H3
      clear hN
      refine seq_i fun N2 hN2 => ?_
      simp only [tSeq, tIfS, tOp, tVar, tC, tCB, tCons, tNil, rI0, rI, tTest, tRet, tRetN, tNext, tAsg, gName, gNil, gCons, gTup, gUnl, tLst, tTup, tCall, tMeth, tMake, tUn, rU, tAndV, tOrV, tNotV, tAnd, tOr, tNot, tIf, tB, tFld, tDrop, tPar, tNever, tBM, rAppend, tSl, tPart, tNoPart, tM1, tyLst, List.getElem?_cons_zero, List.getElem?_cons_succ, Option.some.injEq, exists_eq_left', exists_eq_left, V.int.injEq, V.bl.injEq, V.str.injEq, V.ref.injEq, List.set_cons_zero, List.set_cons_succ, exists_and_left, exists_and_right, and_assoc, List.cons.injEq, and_true, true_and, List.cons_append, List.nil_append, List.append_nil, List.length_cons, List.length_nil, exists_eq', exists_eq, exists_const, exists_eq_right, exists_eq_right', cxK, Cx.nox, Cx.wish]
      refine ⟨by decide, by decide, fun ps hps => ?_⟩
      generalize hH4 : upd H3 ps _ = H4
      obtain ⟨e4, f4⟩ := alloc hps hH4
      refine ⟨l, ps, ns, [26, 26, 6, 5], _, rfl, seqL hs (eH.trans e4), hn, by omega, by omega, ofL f4, (by decide), (by decide), fun ds pd hd hpd => ?_⟩
      obtain ⟨one, two, size, place, rfl, ⟨o0, o1⟩, ⟨w0, w1⟩, ⟨s0, s1⟩, ⟨q0, q1⟩⟩ := drawn4 hd
      generalize hH5 : upd H4 pd _ = H5
      obtain ⟨e5, f5⟩ := alloc hpd hH5
      refine ⟨pd, rfl, _, ofL f5, rfl, ?_⟩
      simp only [List.map_cons, List.map_nil, tSeq, tIfS, tOp, tVar, tC, tCB, tCons, tNil, rI0, rI, tTest, tRet, tRetN, tNext, tAsg, gName, gNil, gCons, gTup, gUnl, tLst, tTup, tCall, tMeth, tMake, tUn, rU, tAndV, tOrV, tNotV, tAnd, tOr, tNot, tIf, tB, tFld, tDrop, tPar, tNever, tBM, rAppend, tSl, tPart, tNoPart, tM1, tyLst, List.getElem?_cons_zero, List.getElem?_cons_succ, Option.some.injEq, exists_eq_left', exists_eq_left, V.int.injEq, V.bl.injEq, V.str.injEq, V.ref.injEq, List.set_cons_zero, List.set_cons_succ, exists_and_left, exists_and_right, and_assoc, List.cons.injEq, and_true, true_and, List.cons_append, List.nil_append, List.append_nil, List.length_cons, List.length_nil, exists_eq', exists_eq, exists_const, exists_eq_right, exists_eq_right', cxK, Cx.nox, Cx.wish]
      refine hN2 _ _ ?_
      clear hN2 N2
      have e35 : Ext H3 H5 := e4.trans e5
      clear hH4 hH5 e4 e5 f4 f5 hps hpd hd
      -- rest
      refine seq_i fun N2 hN2 => ?_
      simp only [rJoinN, tSeq, tIfS, tOp, tVar, tC, tCB, tCons, tNil, rI0, rI, tTest, tRet, tRetN, tNext, tAsg, gName, gNil, gCons, gTup, gUnl, tLst, tTup, tCall, tMeth, tMake, tUn, rU, tAndV, tOrV, tNotV, tAnd, tOr, tNot, tIf, tB, tFld, tDrop, tPar, tNever, tBM, rAppend, tSl, tPart, tNoPart, tM1, tyLst, List.getElem?_cons_zero, List.getElem?_cons_succ, Option.some.injEq, exists_eq_left', exists_eq_left, V.int.injEq, V.bl.injEq, V.str.injEq, V.ref.injEq, List.set_cons_zero, List.set_cons_succ, exists_and_left, exists_and_right, and_assoc, List.cons.injEq, and_true, true_and, List.cons_append, List.nil_append, List.append_nil, List.length_cons, List.length_nil, exists_eq', exists_eq, exists_const, exists_eq_right, exists_eq_right', cxK, Cx.nox, Cx.wish]
      refine tLc_i (J := Itr 0 size.toNat) (fun R r => ⟨_, rfl, _, rfl, by omega, by omega, r⟩) walk_range fun D hD => ?_
      refine ⟨fun i H' => ∃ ys : List Str, H' = upd H5 D (.lst (ys.map V.str)) ∧ ys.length = i ∧ ∀ y ∈ ys, Let y 1, ⟨[], rfl, rfl, fun y hy => absurd hy List.not_mem_nil⟩, fun _ _ _ _ => trivial, ?_, ?_⟩
      · rintro i x H6 H7 hi ⟨ys, rfl, hy, hall⟩ ⟨rfl, rfl⟩
        have ew : wipe [some (V.ref l), some (V.int k), some (V.int m), some (V.ref pf), some (V.str abc), some (V.int (0 + (j : Int))), some (V.int one), some (V.int two), some (V.int size), some (V.int place), v10, v11, v12, v13] (List.map (fun x => x.snd) [((Str.ofString "_law_i" : Str), 12)]) =
          [some (V.ref l), some (V.int k), some (V.int m), some (V.ref pf), some (V.str abc), some (V.int (0 + (j : Int))), some (V.int one), some (V.int two), some (V.int size), some (V.int place), v10, v11, none, v13] := rfl
        refine ⟨rfl, ?_⟩
        simp only [ew, tYes, rIxS, tSeq, tIfS, tOp, tVar, tC, tCB, tCons, tNil, rI0, rI, tTest, tRet, tRetN, tNext, tAsg, gName, gNil, gCons, gTup, gUnl, tLst, tTup, tCall, tMeth, tMake, tUn, rU, tAndV, tOrV, tNotV, tAnd, tOr, tNot, tIf, tB, tFld, tDrop, tPar, tNever, tBM, rAppend, tSl, tPart, tNoPart, tM1, tyLst, List.getElem?_cons_zero, List.getElem?_cons_succ, Option.some.injEq, exists_eq_left', exists_eq_left, V.int.injEq, V.bl.injEq, V.str.injEq, V.ref.injEq, List.set_cons_zero, List.set_cons_succ, exists_and_left, exists_and_right, and_assoc, List.cons.injEq, and_true, true_and, List.cons_append, List.nil_append, List.append_nil, List.length_cons, List.length_nil, exists_eq', exists_eq, exists_const, exists_eq_right, exists_eq_right', cxK, Cx.nox, Cx.wish]
        have hq := abc_at (k := (one + (0 + (i : Int)) * two + 3 * (0 + (j : Int))) % 26) (Int.emod_nonneg _ (by decide)) (Int.emod_lt_of_pos _ (by decide))
        refine ⟨mulW64 (by omega) (by omega), mulW64 (by decide) (by omega), by decide, by decide, _, hq.1, _, upd_same, ?_, ys ++ [⟨#[97 + ((one + (0 + (i : Int)) * two + 3 * (0 + (j : Int))) % 26).toNat]⟩], ?_, ?_, ?_⟩
        · rw [List.length_map]
          have : sizeLine = 16777216 := rfl
          omega
        · rw [upd_upd, List.map_append]
          rfl
        · rw [List.length_append, hy]
          rfl
        · intro y hy2
          rcases List.mem_append.mp hy2 with h | h
          · exact hall y h
          · rw [List.mem_singleton.mp h]
            exact Let.one hq.2
      · rintro H6 ⟨ys, rfl, hy, hall⟩
        have hsum : (ys.map (·.length)).sum = ys.length := by
          clear hy
          induction ys with
          | nil => rfl
          | cons y ys ih =>
            rw [List.map_cons, List.sum_cons, ih fun z hz => hall z (List.mem_cons_of_mem _ hz), (hall y List.mem_cons_self).len, List.length_cons]
            omega
        refine ⟨D, rfl, ys, .inl (ofL upd_same), ?_, hN2 _ _ ?_⟩
        · have e0 : (Str.ofString "").length = 0 := by decide +kernel
          show (ys.map (·.length)).sum + ys.length * (Str.ofString "").length ≤ 16777216
          rw [hsum, e0]
          omega
        clear hN2 N2
        have hr0 : Let (PySem.Txt.join (Str.ofString "") ys) ys.length := by
          rw [show Str.ofString "" = Str.empty by decide +kernel]
          exact join_let ys hall
        generalize PySem.Txt.join (Str.ofString "") ys = rest at hr0 ⊢
        have hz : ys.length ≤ 5 := by omega
        generalize ys.length = n5 at hr0 hz
        generalize hH6 : upd H5 D _ = H6
        have e36 : Ext H3 H6 := hH6 ▸ e35.trans (Ext.upd hD)
        clear hH6 hD hsum hall hy ys
        -- name
        refine seq_i fun N2 hN2 => ?_
        simp only [rSlS, rIxS, tSeq, tIfS, tOp, tVar, tC, tCB, tCons, tNil, rI0, rI, tTest, tRet, tRetN, tNext, tAsg, gName, gNil, gCons, gTup, gUnl, tLst, tTup, tCall, tMeth, tMake, tUn, rU, tAndV, tOrV, tNotV, tAnd, tOr, tNot, tIf, tB, tFld, tDrop, tPar, tNever, tBM, rAppend, tSl, tPart, tNoPart, tM1, tyLst, List.getElem?_cons_zero, List.getElem?_cons_succ, Option.some.injEq, exists_eq_left', exists_eq_left, V.int.injEq, V.bl.injEq, V.str.injEq, V.ref.injEq, List.set_cons_zero, List.set_cons_succ, exists_and_left, exists_and_right, and_assoc, List.cons.injEq, and_true, true_and, List.cons_append, List.nil_append, List.append_nil, List.length_cons, List.length_nil, exists_eq', exists_eq, exists_const, exists_eq_right, exists_eq_right', cxK, Cx.nox, Cx.wish]
        have hz16 : sizeLine = 16777216 := rfl
        have hq := abc_at (k := (one + 7 * (0 + (j : Int)) + 11) % 26) (Int.emod_nonneg _ (by decide)) (Int.emod_lt_of_pos _ (by decide))
        have hpl : place = ((place.toNat : Nat) : Int) := by omega
        have hc := hr0.cut place.toNat
        rw [← hpl] at hc
        have hnm := (hc.1.app (Let.one hq.2)).app hc.2
        refine ⟨by rw [hr0.len]; omega, mulW64 (by decide) (by omega), by decide, by decide, _, hq.1, ?_, by rw [hr0.len]; omega, ?_, hN2 _ _ ?_⟩
        · rw [hc.1.len, (Let.one hq.2).len]
          omega
        · rw [(hc.1.app (Let.one hq.2)).len, hc.2.len]
          omega
        clear hN2 N2
        generalize cutS rest none (some place) ++ _ ++ _ = name at hnm ⊢
        -- a name that is taken
        refine seq_i fun N2 hN2 => ?_
        simp only [rIn, tSeq, tIfS, tOp, tVar, tC, tCB, tCons, tNil, rI0, rI, tTest, tRet, tRetN, tNext, tAsg, gName, gNil, gCons, gTup, gUnl, tLst, tTup, tCall, tMeth, tMake, tUn, rU, tAndV, tOrV, tNotV, tAnd, tOr, tNot, tIf, tB, tFld, tDrop, tPar, tNever, tBM, rAppend, tSl, tPart, tNoPart, tM1, tyLst, List.getElem?_cons_zero, List.getElem?_cons_succ, Option.some.injEq, exists_eq_left', exists_eq_left, V.int.injEq, V.bl.injEq, V.str.injEq, V.ref.injEq, List.set_cons_zero, List.set_cons_succ, exists_and_left, exists_and_right, and_assoc, List.cons.injEq, and_true, true_and, List.cons_append, List.nil_append, List.append_nil, List.length_cons, List.length_nil, exists_eq', exists_eq, exists_const, exists_eq_right, exists_eq_right', cxK, Cx.nox, Cx.wish]
        suffices fin : ∀ (nm : Str) (v13' : Option V) (H7 : Hp), Ext H3 H7 → (∃ k, Let nm k ∧ 1 ≤ k ∧ k ≤ 6) → nm ∉ zs → N2 [some (V.ref l), some (V.int k), some (V.int m), some (V.ref pf), some (V.str abc), some (V.int (0 + (j : Int))), some (V.int one), some (V.int two), some (V.int size), some (V.int place), some (V.str rest), some (V.str nm), v12, v13'] H7 by
          refine ⟨_, .inl (ofL (e36 _ _ hf)), rfl, flat_strs zs, ite2 (fun ht => ?_) (fun ht => ?_)⟩
          · have hc1 : Low (97 + j) := by unfold Low; omega
            have hat : atI abc.cps.toList (0 + (j : Int)) = some (97 + j) := by
              have := (abc_at (k := 0 + (j : Int)) (by omega) (by omega)).1
              rw [this]
              congr 1
              omega
            have ez : (Str.ofString "z").length = 1 := by decide +kernel
            refine tLc_i (J := Its tails) (fun R r => ⟨_, rfl, r⟩) walk_str fun D hD => ?_
            have fD : ∀ u, upd H6 D u pf = some (.lst (zs.map V.str)) := fun u => (Ext.upd hD) _ _ (e36 _ _ hf)
            refine ⟨fun i H' => ∃ ys : List Str, H' = upd H6 D (.lst (ys.map V.str)) ∧ ys.length ≤ i ∧ (∀ y ∈ ys, (∃ k, Let y k ∧ 1 ≤ k ∧ k ≤ 6) ∧ y ∉ zs) ∧ (ys = [] → ∀ t, t < i → cand (97 + j) t ∈ zs),
              ⟨[], rfl, Nat.le_refl _, fun y hy => absurd hy List.not_mem_nil, fun _ t ht => absurd ht (Nat.not_lt_zero _)⟩, fun _ _ _ _ => trivial, ?_, ?_⟩
            · rintro i x H7 H8 hi ⟨ys, rfl, hy, hall, hno⟩ ⟨rfl, cc, hcc, rfl⟩
              obtain ⟨hi12, rfl⟩ := tails_at hcc
              have ew : wipe [some (V.ref l), some (V.int k), some (V.int m), some (V.ref pf), some (V.str abc), some (V.int (0 + (j : Int))), some (V.int one), some (V.int two), some (V.int size), some (V.int place), some (V.str rest), some (V.str name), v12, v13] (List.map (fun x => x.snd) [((Str.ofString "_law_tail" : Str), 13)]) =
                [some (V.ref l), some (V.int k), some (V.int m), some (V.ref pf), some (V.str abc), some (V.int (0 + (j : Int))), some (V.int one), some (V.int two), some (V.int size), some (V.int place), some (V.str rest), some (V.str name), v12, none] := rfl
              refine ⟨rfl, ?_⟩
              simp only [ew, rIxS, rIn, tSeq, tIfS, tOp, tVar, tC, tCB, tCons, tNil, rI0, rI, tTest, tRet, tRetN, tNext, tAsg, gName, gNil, gCons, gTup, gUnl, tLst, tTup, tCall, tMeth, tMake, tUn, rU, tAndV, tOrV, tNotV, tAnd, tOr, tNot, tIf, tB, tFld, tDrop, tPar, tNever, tBM, rAppend, tSl, tPart, tNoPart, tM1, tyLst, List.getElem?_cons_zero, List.getElem?_cons_succ, Option.some.injEq, exists_eq_left', exists_eq_left, V.int.injEq, V.bl.injEq, V.str.injEq, V.ref.injEq, List.set_cons_zero, List.set_cons_succ, exists_and_left, exists_and_right, and_assoc, List.cons.injEq, and_true, true_and, List.cons_append, List.nil_append, List.append_nil, List.length_cons, List.length_nil, exists_eq', exists_eq, exists_const, exists_eq_right, exists_eq_right', cxK, Cx.nox, Cx.wish]
              have l1 : ∀ x, (Str.ofString "z").length + (⟨#[x]⟩ : Str).length ≤ sizeLine := fun x => by rw [ez]; show 1 + 1 ≤ sizeLine; decide
              have l2 : ∀ x y, (Str.ofString "z" ++ (⟨#[x]⟩ : Str)).length + (⟨#[y]⟩ : Str).length ≤ sizeLine := fun x y => by rw [strLen_append, ez]; show 1 + 1 + 1 ≤ sizeLine; decide
              refine ⟨by decide, _, hat, l1 _, l2 _ _, _, .inl (ofL (fD _)), rfl, flat_strs zs, ?_⟩
              rw [cand_app]
              refine ite2 (fun hb => ?_) (fun hb => ?_)
              · have hni : cand (97 + j) i ∉ zs := fun z => by
                  have hb2 : (!inV (V.str (cand (97 + j) i)) (zs.map V.str)) = true := hb
                  rw [in_strs.mpr z] at hb2
                  cases hb2
                refine ⟨by decide, _, hat, l1 _, l2 _ _, _, upd_same, ?_, ys ++ [cand (97 + j) i], ?_, ?_, ?_, ?_⟩
                · rw [List.length_map]
                  omega
                · rw [upd_upd, List.map_append, cand_app]
                  rfl
                · rw [List.length_append]
                  show ys.length + 1 ≤ i + 1
                  omega
                · intro y hy2
                  rcases List.mem_append.mp hy2 with h | h
                  · exact hall y h
                  · rw [List.mem_singleton.mp h]
                    exact ⟨⟨3, cand_let hc1 hi12, by decide, by decide⟩, hni⟩
                · intro e
                  simp at e
              · have hin : cand (97 + j) i ∈ zs := by
                  cases hq2 : inV (V.str (cand (97 + j) i)) (zs.map V.str) with
                  | true => exact in_strs.mp hq2
                  | false =>
                    refine (hb ?_).elim
                    show (!inV (V.str (cand (97 + j) i)) (zs.map V.str)) = true
                    rw [hq2]
                    rfl
                refine ⟨ys, rfl, by omega, hall, fun e t ht => ?_⟩
                rcases Nat.lt_or_ge t i with h | h
                · exact hno e t h
                · obtain rfl : t = i := by omega
                  exact hin
            · rintro H7 ⟨ys, rfl, hy, hall, hno⟩
              rw [tails_size] at hno
              cases ys with
              | nil => exact absurd (hno rfl) (cand_free (by omega))
              | cons y ys =>
                have hy1 := hall y List.mem_cons_self
                exact ⟨D, _, 0, _, rfl, rfl, ofL upd_same, atI_0, fin y v13 _ (e36.trans (Ext.upd hD)) hy1.1 hy1.2⟩
          · exact fin name v13 H6 e36 ⟨_, hnm, by omega, by omega⟩ fun z => ht (in_strs.mpr z)
        intro nm v13' H7 e37 hlet hni
        refine hN2 _ _ ?_
        clear hN2 N2
        simp only [tSeq, tIfS, tOp, tVar, tC, tCB, tCons, tNil, rI0, rI, tTest, tRet, tRetN, tNext, tAsg, gName, gNil, gCons, gTup, gUnl, tLst, tTup, tCall, tMeth, tMake, tUn, rU, tAndV, tOrV, tNotV, tAnd, tOr, tNot, tIf, tB, tFld, tDrop, tPar, tNever, tBM, rAppend, tSl, tPart, tNoPart, tM1, tyLst, List.getElem?_cons_zero, List.getElem?_cons_succ, Option.some.injEq, exists_eq_left', exists_eq_left, V.int.injEq, V.bl.injEq, V.str.injEq, V.ref.injEq, List.set_cons_zero, List.set_cons_succ, exists_and_left, exists_and_right, and_assoc, List.cons.injEq, and_true, true_and, List.cons_append, List.nil_append, List.append_nil, List.length_cons, List.length_nil, exists_eq', exists_eq, exists_const, exists_eq_right, exists_eq_right', cxK, Cx.nox, Cx.wish]
        have e7 := e37 _ _ hf
        refine ⟨tyLst e7, _, e7, by rw [List.length_map]; omega, upd_ext (eH.trans e37) hpf, zs ++ [nm], ⟨?_, ?_⟩, ?_, ?_⟩
        · intro n hn2
          rcases List.mem_append.mp hn2 with h | h
          · exact hg.each n h
          · rw [List.mem_singleton.mp h]
            exact hlet
        · exact List.nodup_append.mpr ⟨hg.nd, by simp, fun x hx y hy e => by
            rw [List.mem_singleton.mp hy] at e
            exact hni (e ▸ hx)⟩
        · rw [List.length_append, hl]
          rfl
        · rw [upd_same, List.map_append]
          rfl
    · rintro σ H3 ⟨⟨v5, v6, v7, v8, v9, v10, v11, v12, v13, rfl⟩, eH, zs, hg, hl, hf⟩
      refine hN _ _ ?_
      simp only [tSeq, tIfS, tOp, tVar, tC, tCB, tCons, tNil, rI0, rI, tTest, tRet, tRetN, tNext, tAsg, gName, gNil, gCons, gTup, gUnl, tLst, tTup, tCall, tMeth, tMake, tUn, rU, tAndV, tOrV, tNotV, tAnd, tOr, tNot, tIf, tB, tFld, tDrop, tPar, tNever, tBM, rAppend, tSl, tPart, tNoPart, tM1, tyLst, List.getElem?_cons_zero, List.getElem?_cons_succ, Option.some.injEq, exists_eq_left', exists_eq_left, V.int.injEq, V.bl.injEq, V.str.injEq, V.ref.injEq, List.set_cons_zero, List.set_cons_succ, exists_and_left, exists_and_right, and_assoc, List.cons.injEq, and_true, true_and, List.cons_append, List.nil_append, List.append_nil, List.length_cons, List.length_nil, exists_eq', exists_eq, exists_const, exists_eq_right, exists_eq_right', cxK, Cx.nox, Cx.wish]
      exact q zs pf H3 hg (by omega) eH hf hpf

/-! ### _law_same, on data -/
def spSameD (K : PySem.W.Frag) : Sp := fun vs H Q _ => ∃ (x y : V) (d : PyData), vs = [x, y] ∧ Dp K H x d ∧ Dp K H y d ∧ Neat d ∧ Q (.bl true) H
theorem ok_l_same (T : Tx a K mg w) : FnG P w K mg base CX0 2 a.f_l_same a.d_l_same ps_l_same (spSameD K) := by
  refine okG T.F_l_same sc_l_same (fun vs H Q E h => ?_) (fun cdv A outer s H vs Q E hgd hr h => ?_)
  · obtain ⟨x, y, d, rfl, _⟩ := h
    rfl
  · obtain ⟨x, y, d, rfl, hx, hy, nt, q⟩ := h
    refine ⟨_, (pss_cons (ps_if (pt_val (pe_callB call_isi (by rfl) T.no_isinstance (by decide +kernel) (pa_cons (pv 1) (pa_cons (pe_bltn (v := V.ty "dict") (by rfl) T.no_dict (by decide +kernel) rfl) pa_nil)))) (pss_one ps_never) pss_nil)
      (pss_one (ps_ret (pe_and (pe_cmpR (op_eqD hr.units) (pv 0) (pv 1) (nomark _)) (pe_one (pe_cmpR op_eq (pe_callB (call_reprD hgd (hr.mono (by decide))) (by rfl) T.no_repr (by decide +kernel) (pa_cons (pv 0) pa_nil)) (pe_callB (call_reprD hgd (hr.mono (by decide))) (by rfl) T.no_repr (by decide +kernel) (pa_cons (pv 1) pa_nil)) (nomark _))))))), ?_⟩
    show tSeq _ _ _ [some x, some y] H
    obtain ⟨n, hn, hk⟩ := ty_data hy
    simp only [rIsi, rEqD, rReprD, rEq, tSeq, tIfS, tOp, tVar, tC, tCB, tCons, tNil, rI0, rI, tTest, tRet, tRetN, tNext, tAsg, gName, gNil, gCons, gTup, gUnl, tLst, tTup, tCall, tMeth, tMake, tUn, rU, tAndV, tOrV, tNotV, tAnd, tOr, tNot, tIf, tB, tFld, tDrop, tPar, tNever, tBM, rAppend, tSl, tPart, tNoPart, tM1, tyLst, List.getElem?_cons_zero, List.getElem?_cons_succ, Option.some.injEq, exists_eq_left', exists_eq_left, V.int.injEq, V.bl.injEq, V.str.injEq, V.ref.injEq, List.set_cons_zero, List.set_cons_succ, exists_and_left, exists_and_right, and_assoc, List.cons.injEq, and_true, true_and, List.cons_append, List.nil_append, List.append_nil, List.length_cons, List.length_nil, exists_eq', exists_eq, exists_const, exists_eq_right, exists_eq_right', cxK, Cx.nox, Cx.wish]
    refine ⟨_, _, .ty "dict", hn, false, hk, iteF ?_⟩
    refine ⟨d, hx, d, hy, nt.shaped, nt.shaped, ?_⟩
    rw [if_pos nt.refl]
    refine ⟨d, hx, nt.show_, nt.noDict, nt.deep, nt.len, d, hy, nt.show_, nt.noDict, nt.deep, nt.len, rfl, ?_⟩
    rw [decide_eq_true rfl]
    exact q

/-! ### inner -/
/-- whether a house is under the roof on a day -/
def underD (kvs : List (Key × V)) (h : Str) (day : Int) : Bool := match valV kvs (Sum.inr h) with
  | some (.int i) => decide (i ≤ day)
  | _ => false
theorem underD_none {kvs : List (Key × V)} {h : Str} {day : Int} (e : valV kvs (Sum.inr h) = none) : underD kvs h day = false := by
  unfold underD
  rw [e]
theorem underD_some {kvs : List (Key × V)} {h : Str} {day i : Int} (e : valV kvs (Sum.inr h) = some (.int i)) : underD kvs h day = decide (i ≤ day) := by
  unfold underD
  rw [e]
def spWas : Sp := fun vs H Q _ => ∃ (h : Str) (day : Int) (s : Addr) (kvs : List (Key × V)), vs = [.str h, .int day, .ref s] ∧ H s = some (.dK kvs) ∧ AllV IsI kvs ∧ Q (.bl (underD kvs h day)) H
theorem ok_was_under (T : Tx a K mg w) : FnOk P w K mg base CX0 1 a.f_was_under a.d_was_under ps_was_under spWas := by
  refine T.F_was_under.ok sc_was_under (fun vs H Q E h => ?_) (fun cdv A outer s H vs Q E hr h => ?_)
  · obtain ⟨h, day, s, kvs, rfl, _⟩ := h
    rfl
  · obtain ⟨h, day, s, kvs, rfl, hs, hI, q⟩ := h
    have hu := hu_of hr
    refine ⟨_, (pss_one (ps_ret (pe_and (pe_cmp (pc_din hu (pv 0) (pv 2)) rfl) (pe_one (pe_cmpR op_le (pe_dget hu (pv 2) (pv 0) (fun _ _ => rfl)) (pv 1) (nomark _)))))), ?_⟩
    show tRet _ _ [some (V.str h), some (V.int day), some (V.ref s)] H
    simp only [tDIn, tDGet, tSeq, tIfS, tOp, tVar, tC, tCB, tCons, tNil, rI0, rI, tTest, tRet, tRetN, tNext, tAsg, gName, gNil, gCons, gTup, gUnl, tLst, tTup, tCall, tMeth, tMake, tUn, rU, tAndV, tOrV, tNotV, tAnd, tOr, tNot, tIf, tB, tFld, tDrop, tPar, tNever, tBM, rAppend, tSl, tPart, tNoPart, tM1, tyLst, List.getElem?_cons_zero, List.getElem?_cons_succ, Option.some.injEq, exists_eq_left', exists_eq_left, V.int.injEq, V.bl.injEq, V.str.injEq, V.ref.injEq, List.set_cons_zero, List.set_cons_succ, exists_and_left, exists_and_right, and_assoc, List.cons.injEq, and_true, true_and, List.cons_append, List.nil_append, List.append_nil, List.length_cons, List.length_nil, exists_eq', exists_eq, exists_const, exists_eq_right, exists_eq_right', cxK, Cx.nox, Cx.wish]
    refine ⟨_, .inl ⟨kvs, Sum.inr h, .inl hs, rfl, rfl⟩, ?_⟩
    cases e : valV kvs (Sum.inr h) with
    | none =>
      rw [underD_none e] at q
      exact iteF q
    | some v =>
      obtain ⟨i, rfl⟩ := hI.val e
      rw [underD_some e] at q
      refine iteT ?_
      exact ⟨_, .inl ⟨kvs, Sum.inr h, .inl hs, rfl, e.symm⟩, i, rfl, q⟩
def spInner (K : PySem.W.Frag) : Sp := fun vs H Q _ => ∃ (l s : Addr) (kvs : List (Key × V)) (n day : Int) (g t : Str) (r : List V), vs = [.ref l, .ref s] ∧ SqT K H l (V.int n :: V.int day :: V.str g :: V.str t :: r) ∧ H s = some (.dK kvs) ∧ AllV IsI kvs ∧ Q (.bl (underD kvs g day && underD kvs t day)) H
theorem ok_inner (T : Tx a K mg w) : FnOk P w K mg base CX0 2 a.f_inner a.d_inner ps_inner (spInner K) := by
  refine T.F_inner.ok sc_inner (fun vs H Q E h => ?_) (fun cdv A outer s H vs Q E hr h => ?_)
  · obtain ⟨l, s, kvs, n, day, g, t, r, rfl, _⟩ := h
    rfl
  · obtain ⟨l, s, kvs, n, day, g, t, r, rfl, hl, hs, hI, q⟩ := h
    have G_was_under := ok_was_under (P := P) (w := w) (base := base) T
    have B_was_under := bnd_was_under T
    have hr_was_under : Room 1 _ := hr.mono (by decide)
    refine ⟨_, (pss_one (ps_ret (pe_and (pe_call G_was_under hr_was_under (by rfl) T.mg_was_under T.F_was_under.kp B_was_under .nil pass0 (pa_cons (pe_ix ix_tup (pv 0) pe_int (fun _ _ => rfl)) (pa_cons (pe_ix ix_tup (pv 0) pe_int (fun _ _ => rfl)) (pa_cons (pv 1) pa_nil)))) (pe_one (pe_call G_was_under hr_was_under (by rfl) T.mg_was_under T.F_was_under.kp B_was_under .nil pass0 (pa_cons (pe_ix ix_tup (pv 0) pe_int (fun _ _ => rfl)) (pa_cons (pe_ix ix_tup (pv 0) pe_int (fun _ _ => rfl)) (pa_cons (pv 1) pa_nil)))))))), ?_⟩
    show tRet _ _ [some (V.ref l), some (V.ref s)] H
    simp only [rIxT, tSeq, tIfS, tOp, tVar, tC, tCB, tCons, tNil, rI0, rI, tTest, tRet, tRetN, tNext, tAsg, gName, gNil, gCons, gTup, gUnl, tLst, tTup, tCall, tMeth, tMake, tUn, rU, tAndV, tOrV, tNotV, tAnd, tOr, tNot, tIf, tB, tFld, tDrop, tPar, tNever, tBM, rAppend, tSl, tPart, tNoPart, tM1, tyLst, List.getElem?_cons_zero, List.getElem?_cons_succ, Option.some.injEq, exists_eq_left', exists_eq_left, V.int.injEq, V.bl.injEq, V.str.injEq, V.ref.injEq, List.set_cons_zero, List.set_cons_succ, exists_and_left, exists_and_right, and_assoc, List.cons.injEq, and_true, true_and, List.cons_append, List.nil_append, List.append_nil, List.length_cons, List.length_nil, exists_eq', exists_eq, exists_const, exists_eq_right, exists_eq_right', cxK, Cx.nox, Cx.wish]
    have a1 : atI (V.int n :: V.int day :: V.str g :: V.str t :: r) 1 = some (V.int day) := Own.atI_nat (j := 1) rfl
    have a2 : atI (V.int n :: V.int day :: V.str g :: V.str t :: r) 2 = some (V.str g) := Own.atI_nat (j := 2) rfl
    have a3 : atI (V.int n :: V.int day :: V.str g :: V.str t :: r) 3 = some (V.str t) := Own.atI_nat (j := 3) rfl
    refine ⟨_, hl, _, a2, _, hl, _, a1, g, day, s, kvs, rfl, hs, hI, _, rfl, ?_⟩
    cases e : underD kvs g day with
    | false =>
      rw [e, Bool.false_and] at q
      exact iteF q
    | true =>
      rw [e, Bool.true_and] at q
      exact iteT ⟨_, hl, _, a3, _, hl, _, a1, t, day, s, kvs, rfl, hs, hI, q⟩

end
end My

set_option Elab.async false
set_option maxRecDepth 100000
set_option maxHeartbeats 4000000
set_option linter.all false
namespace My
open PySem L2 Own
section
variable {P : Program} {w : World} {K : PySem.W.Frag} {mg : Str → Option Value} {base : Heap} {a : Adr}
/-! ### Part -/
def spPartInit (C : Addr) : Sp := fun vs H Q _ => ∃ (p dx : Addr) (t l : Int), vs = [.ref p, .int t, .int l] ∧ H p = some (.ins C dx []) ∧ l ≠ 0 ∧ t.natAbs < 2 ^ 4000 ∧ l.natAbs < 2 ^ 4000 ∧ Q .non (upd H p (.ins C dx (fsP (fracT t l) (fracL t l))))
theorem ok_Part_init (T : Tx a K mg w) : FnOk P w K mg base CX0 1 a.f_Part_init a.d_Part_init ps_Part_init (spPartInit a.C_Part) := by
  refine okD T.F_Part_init sc_Part_init (fun vs H Q E h => ?_) (fun cdv A outer s H vs Q E hr h => ?_)
  · obtain ⟨p, dx, t, l, rfl, _⟩ := h
    rfl
  · obtain ⟨p, dx, t, l, rfl, hp, hl, ht, hlb, q⟩ := h
    refine ⟨_, (pss_cons (ps_if (pt_cmpR op_eq (pv 2) pe_int (nomark _)) (pss_one ps_never) pss_nil)
      (pss_cons (ps_set (i := 3) sc_Part_init.nd rfl (by first | exact Or.inl rfl | exact Or.inr rfl) (pe_callBfun cr_gcd (by rfl) T.mg_gcd (pa_cons (pv 1) (pa_cons (pv 2) pa_nil))))
      (pss_cons (ps_if (pt_cmpR op_lt (pv 2) pe_int (nomark _)) (pss_one (ps_set (i := 3) sc_Part_init.nd rfl (by first | exact Or.inl rfl | exact Or.inr rfl) (pe_un un_neg (pv 3)))) pss_nil)
      (pss_cons (ps_fld (pv 0) (pe_op op_fdivA (pv 1) (pv 3)) rfl)
      (pss_one (ps_fld (pv 0) (pe_op op_fdivA (pv 2) (pv 3)) rfl)))))), ?_⟩
    show tSeq _ _ _ [some (V.ref p), some (V.int t), some (V.int l), none] H
    simp only [rEq, rGcd, sFld, tSeq, tIfS, tOp, tVar, tC, tCB, tCons, tNil, rI0, rI, tTest, tRet, tRetN, tNext, tAsg, gName, gNil, gCons, gTup, gUnl, tLst, tTup, tCall, tMeth, tMake, tUn, rU, tAndV, tOrV, tNotV, tAnd, tOr, tNot, tIf, tB, tFld, tDrop, tPar, tNever, tBM, rAppend, tSl, tPart, tNoPart, tM1, tyLst, List.getElem?_cons_zero, List.getElem?_cons_succ, Option.some.injEq, exists_eq_left', exists_eq_left, V.int.injEq, V.bl.injEq, V.str.injEq, V.ref.injEq, List.set_cons_zero, List.set_cons_succ, exists_and_left, exists_and_right, and_assoc, List.cons.injEq, and_true, true_and, List.cons_append, List.nil_append, List.append_nil, List.length_cons, List.length_nil, exists_eq', exists_eq, exists_const, exists_eq_right, exists_eq_right', cxK, Cx.nox, Cx.wish]
    have hg0 := gcdI_pos (t := t) hl
    have hgb : (gcdI t l).natAbs < 2 ^ 4000 := Nat.lt_of_le_of_lt (gcdI_le hl) hlb
    refine ⟨rfl, ?_⟩
    rw [decide_eq_false hl]
    refine iteF (ite2 (fun hn => ?_) (fun hn => ?_))
    · have hn := of_decide_eq_true hn
      have e := frac_neg (t := t) hn
      unfold gcdI at e
      have hd : ∀ i, CDivA i (-((Nat.gcd t.natAbs l.natAbs : Nat) : Int)) := fun i => divA_of 4000 (by unfold gcdI at hg0; omega) (by rw [Int.natAbs_neg]; exact hgb) (by decide) (by decide)
      rw [e.1, e.2]
      refine ⟨hd _, _, _, _, hp, T.cl_Part, T.na_Part_top, (by show 0 < 1000; decide), hd _, _, _, _, upd_same, T.cl_Part, T.na_Part_low, (by show 1 < 1000; decide), ?_⟩
      rw [upd_upd]
      exact q
    · have hn : ¬ l < 0 := fun z => hn (decide_eq_true z)
      have e := frac_pos (t := t) (l := l) (by omega)
      unfold gcdI at e
      have hd : ∀ i, CDivA i ((Nat.gcd t.natAbs l.natAbs : Nat) : Int) := fun i => divA_of 4000 (by unfold gcdI at hg0; omega) hgb (by decide) (by decide)
      rw [e.1, e.2]
      refine ⟨hd _, _, _, _, hp, T.cl_Part, T.na_Part_top, (by show 0 < 1000; decide), hd _, _, _, _, upd_same, T.cl_Part, T.na_Part_low, (by show 1 < 1000; decide), ?_⟩
      rw [upd_upd]
      exact q
def spSign (C : Addr) : Sp := fun vs H Q _ => ∃ (p : Addr) (t l : Int), vs = [.ref p] ∧ PartAt C H p t l ∧ Q (.int (sgn t)) H
theorem ok_Part_sign (T : Tx a K mg w) : FnOk P w K mg base CX0 1 a.f_Part_sign a.d_Part_sign ps_Part_sign (spSign a.C_Part) := by
  refine T.F_Part_sign.ok sc_Part_sign (fun vs H Q E h => ?_) (fun cdv A outer s H vs Q E hr h => ?_)
  · obtain ⟨p, t, l, rfl, _⟩ := h
    rfl
  · obtain ⟨p, t, l, rfl, ⟨dx, hp⟩, q⟩ := h
    refine ⟨_, (pss_cons (ps_if (pt_cmpR op_eq (pe_fld (pv 0) rfl) pe_int (nomark _)) (pss_one (ps_ret pe_int)) pss_nil)
      (pss_one (ps_ret (pe_ifExp (pt_cmpR op_gt (pe_fld (pv 0) rfl) pe_int (nomark _)) pe_int (pe_un un_neg pe_int))))), ?_⟩
    show tSeq _ _ _ [some (V.ref p)] H
    simp only [rEq, tSeq, tIfS, tOp, tVar, tC, tCB, tCons, tNil, rI0, rI, tTest, tRet, tRetN, tNext, tAsg, gName, gNil, gCons, gTup, gUnl, tLst, tTup, tCall, tMeth, tMake, tUn, rU, tAndV, tOrV, tNotV, tAnd, tOr, tNot, tIf, tB, tFld, tDrop, tPar, tNever, tBM, rAppend, tSl, tPart, tNoPart, tM1, tyLst, List.getElem?_cons_zero, List.getElem?_cons_succ, Option.some.injEq, exists_eq_left', exists_eq_left, V.int.injEq, V.bl.injEq, V.str.injEq, V.ref.injEq, List.set_cons_zero, List.set_cons_succ, exists_and_left, exists_and_right, and_assoc, List.cons.injEq, and_true, true_and, List.cons_append, List.nil_append, List.append_nil, List.length_cons, List.length_nil, exists_eq', exists_eq, exists_const, exists_eq_right, exists_eq_right', cxK, Cx.nox, Cx.wish]
    refine ⟨_, _, _, hp, T.cl_Part, T.na_Part_top, _, fsP_top t l, rfl, ite2 (fun h0 => ?_) (fun h0 => ?_)⟩
    · have h0 : t = 0 := V.int.inj (of_decide_eq_true h0)
      rw [show (0 : Int) = sgn t by unfold sgn; rw [if_pos h0]]
      exact q
    · have h0 : ¬ t = 0 := fun z => h0 (decide_eq_true (congrArg V.int z))
      refine ⟨_, _, _, hp, T.cl_Part, T.na_Part_top, _, fsP_top t l, t, rfl, ite2 (fun h1 => ?_) (fun h1 => ?_)⟩
      · have h1 := of_decide_eq_true h1
        rw [show (1 : Int) = sgn t by unfold sgn; rw [if_neg h0, if_pos h1]]
        exact q
      · have h1 : ¬ 0 < t := fun z => h1 (decide_eq_true z)
        rw [show (-1 : Int) = sgn t by unfold sgn; rw [if_neg h0, if_neg h1]]
        exact q

/-! ### Part: plus, times, over -/
def spPartOp (C : Addr) (F G : Int → Int → Int → Int → Int) : Sp := fun vs H Q _ => ∃ (p q : Addr) (t l t2 l2 : Int), vs = [.ref p, .ref q] ∧ PartAt C H p t l ∧ PartAt C H q t2 l2 ∧ G t l t2 l2 ≠ 0 ∧ t.natAbs < 2 ^ 1000 ∧ l.natAbs < 2 ^ 1000 ∧ t2.natAbs < 2 ^ 1000 ∧ l2.natAbs < 2 ^ 1000 ∧
  ∀ (r : Addr) H', Ext H H' → H r = none → PartAt C H' r (fracT (F t l t2 l2) (G t l t2 l2)) (fracL (F t l t2 l2) (G t l t2 l2)) → Q (.ref r) H'
theorem mk_partE {C x dx : Addr} {H : Hp} {t l : Int} {Q : VK} {E : XK} (hx : H x = none) (hd : H dx = none) (hl : l ≠ 0) (ht : t.natAbs < 2 ^ 4000) (hb : l.natAbs < 2 ^ 4000) (k : ∀ H', Ext H H' → PartAt C H' x (fracT t l) (fracL t l) → Q .non H') :
    spPartInit C [.ref x, .int t, .int l] (upd (upd H dx (.own x)) x (.ins C dx [])) Q E := by
  refine ⟨x, dx, t, l, rfl, upd_same, hl, ht, hb, ?_⟩
  generalize hh : upd (upd (upd H dx _) x _) x _ = H'
  obtain ⟨e, f⟩ := makeP hx hd hh
  exact k H' e ⟨dx, f⟩
theorem mulB {x y : Int} (h1 : x.natAbs < 2 ^ 1000) (h2 : y.natAbs < 2 ^ 1000) : CMulW x y ∧ (x * y).natAbs < 2 ^ 2000 := ⟨mulWn 1000 1000 h1 h2 (by decide) (by decide) (by decide), mul_lt 1000 1000 h1 h2⟩
theorem addB {x y : Int} (h1 : x.natAbs < 2 ^ 2000) (h2 : y.natAbs < 2 ^ 2000) : (x + y).natAbs < 2 ^ 4000 := by
  have h : (x + y).natAbs ≤ x.natAbs + y.natAbs := Int.natAbs_add_le x y
  have h3 : 2 ^ 2000 + 2 ^ 2000 ≤ 2 ^ 4000 := by
    have e : 2 ^ 2000 + 2 ^ 2000 = 2 ^ 2001 := by rw [Nat.pow_succ]; omega
    rw [e]
    exact Nat.pow_le_pow_right (by decide) (by decide)
  omega

theorem ok_Part_plus (T : Tx a K mg w) : FnOk P w K mg base CX0 3 a.f_Part_plus a.d_Part_plus ps_Part_plus (spPartOp a.C_Part (fun t l t2 l2 => t * l2 + t2 * l) (fun t l t2 l2 => l * l2)) := by
  refine T.F_Part_plus.ok sc_Part_plus (fun vs H Q E h => ?_) (fun cdv A outer s H vs Q E hr h => ?_)
  · obtain ⟨p, q, t, l, t2, l2, rfl, _⟩ := h
    rfl
  · obtain ⟨p, q, t, l, t2, l2, rfl, ⟨dp, hp⟩, ⟨dq, hq⟩, hne, b1, b2, b3, b4, k⟩ := h
    have G_Part_init := ok_Part_init (P := P) (w := w) (base := base) T
    obtain ⟨_, D_Part_init_1, B_Part_init_1⟩ := bnd_Part_init_1 T
    obtain ⟨_, D_Part_init_2, B_Part_init_2⟩ := bnd_Part_init_2 T
    have hr_Part_init : Room 1 _ := hr.mono (by decide)
    have hr1_Part_init : Room 2 _ := hr.mono (by decide)
    refine ⟨_, (pss_one (ps_ret (pe_make T.mk_Part G_Part_init hr1_Part_init (by rfl) T.mg_Part B_Part_init_2 D_Part_init_2 pass0 (pa_cons (pe_op op_add (pe_op op_mulW (pe_fld (pv 0) rfl) (pe_fld (pv 1) rfl)) (pe_op op_mulW (pe_fld (pv 1) rfl) (pe_fld (pv 0) rfl))) (pa_cons (pe_op op_mulW (pe_fld (pv 0) rfl) (pe_fld (pv 1) rfl)) pa_nil))))), ?_⟩
    show tRet _ _ [some (V.ref p), some (V.ref q)] H
    simp only [tSeq, tIfS, tOp, tVar, tC, tCB, tCons, tNil, rI0, rI, tTest, tRet, tRetN, tNext, tAsg, gName, gNil, gCons, gTup, gUnl, tLst, tTup, tCall, tMeth, tMake, tUn, rU, tAndV, tOrV, tNotV, tAnd, tOr, tNot, tIf, tB, tFld, tDrop, tPar, tNever, tBM, rAppend, tSl, tPart, tNoPart, tM1, tyLst, List.getElem?_cons_zero, List.getElem?_cons_succ, Option.some.injEq, exists_eq_left', exists_eq_left, V.int.injEq, V.bl.injEq, V.str.injEq, V.ref.injEq, List.set_cons_zero, List.set_cons_succ, exists_and_left, exists_and_right, and_assoc, List.cons.injEq, and_true, true_and, List.cons_append, List.nil_append, List.append_nil, List.length_cons, List.length_nil, exists_eq', exists_eq, exists_const, exists_eq_right, exists_eq_right', cxK, Cx.nox, Cx.wish]
    refine ⟨_, _, _, hp, T.cl_Part, T.na_Part_top, _, fsP_top _ _, _, _, _, hq, T.cl_Part, T.na_Part_low, _, fsP_low _ _, t, rfl, l2, rfl, (mulB b1 b4).1, _, _, _, hq, T.cl_Part, T.na_Part_top, _, fsP_top _ _, _, _, _, hp, T.cl_Part, T.na_Part_low, _, fsP_low _ _, t2, rfl, l, rfl, (mulB b3 b2).1, _, _, _, hp, T.cl_Part, T.na_Part_low, _, fsP_low _ _, _, _, _, hq, T.cl_Part, T.na_Part_low, _, fsP_low _ _, l, rfl, l2, rfl, (mulB b2 b4).1, fun x dx hx hdx _ => ?_⟩
    exact mk_partE hx hdx hne (addB (mulB b1 b4).2 (mulB b3 b2).2) (Nat.lt_trans (mulB b2 b4).2 (by decide)) fun H' e f => ⟨rfl, k x H' e hx f⟩

theorem ok_Part_times (T : Tx a K mg w) : FnOk P w K mg base CX0 3 a.f_Part_times a.d_Part_times ps_Part_times (spPartOp a.C_Part (fun t l t2 l2 => t * t2) (fun t l t2 l2 => l * l2)) := by
  refine T.F_Part_times.ok sc_Part_times (fun vs H Q E h => ?_) (fun cdv A outer s H vs Q E hr h => ?_)
  · obtain ⟨p, q, t, l, t2, l2, rfl, _⟩ := h
    rfl
  · obtain ⟨p, q, t, l, t2, l2, rfl, ⟨dp, hp⟩, ⟨dq, hq⟩, hne, b1, b2, b3, b4, k⟩ := h
    have G_Part_init := ok_Part_init (P := P) (w := w) (base := base) T
    obtain ⟨_, D_Part_init_1, B_Part_init_1⟩ := bnd_Part_init_1 T
    obtain ⟨_, D_Part_init_2, B_Part_init_2⟩ := bnd_Part_init_2 T
    have hr_Part_init : Room 1 _ := hr.mono (by decide)
    have hr1_Part_init : Room 2 _ := hr.mono (by decide)
    refine ⟨_, (pss_one (ps_ret (pe_make T.mk_Part G_Part_init hr1_Part_init (by rfl) T.mg_Part B_Part_init_2 D_Part_init_2 pass0 (pa_cons (pe_op op_mulW (pe_fld (pv 0) rfl) (pe_fld (pv 1) rfl)) (pa_cons (pe_op op_mulW (pe_fld (pv 0) rfl) (pe_fld (pv 1) rfl)) pa_nil))))), ?_⟩
    show tRet _ _ [some (V.ref p), some (V.ref q)] H
    simp only [tSeq, tIfS, tOp, tVar, tC, tCB, tCons, tNil, rI0, rI, tTest, tRet, tRetN, tNext, tAsg, gName, gNil, gCons, gTup, gUnl, tLst, tTup, tCall, tMeth, tMake, tUn, rU, tAndV, tOrV, tNotV, tAnd, tOr, tNot, tIf, tB, tFld, tDrop, tPar, tNever, tBM, rAppend, tSl, tPart, tNoPart, tM1, tyLst, List.getElem?_cons_zero, List.getElem?_cons_succ, Option.some.injEq, exists_eq_left', exists_eq_left, V.int.injEq, V.bl.injEq, V.str.injEq, V.ref.injEq, List.set_cons_zero, List.set_cons_succ, exists_and_left, exists_and_right, and_assoc, List.cons.injEq, and_true, true_and, List.cons_append, List.nil_append, List.append_nil, List.length_cons, List.length_nil, exists_eq', exists_eq, exists_const, exists_eq_right, exists_eq_right', cxK, Cx.nox, Cx.wish]
    refine ⟨_, _, _, hp, T.cl_Part, T.na_Part_top, _, fsP_top _ _, _, _, _, hq, T.cl_Part, T.na_Part_top, _, fsP_top _ _, t, rfl, t2, rfl, (mulB b1 b3).1, _, _, _, hp, T.cl_Part, T.na_Part_low, _, fsP_low _ _, _, _, _, hq, T.cl_Part, T.na_Part_low, _, fsP_low _ _, l, rfl, l2, rfl, (mulB b2 b4).1, fun x dx hx hdx _ => ?_⟩
    exact mk_partE hx hdx hne (Nat.lt_trans (mulB b1 b3).2 (by decide)) (Nat.lt_trans (mulB b2 b4).2 (by decide)) fun H' e f => ⟨rfl, k x H' e hx f⟩

/-! ### _law_frac -/
def spFrac : Sp := fun vs H Q _ => ∃ t l : Int, vs = [.int t, .int l] ∧ l ≠ 0 ∧ t.natAbs < 2 ^ 4000 ∧ l.natAbs < 2 ^ 4000 ∧ ∀ p, H p = none → Q (.ref p) (upd H p (.tup [.int (fracT t l), .int (fracL t l)]))
theorem ok_l_frac (T : Tx a K mg w) : FnOk P w K mg base CX0 1 a.f_l_frac a.d_l_frac ps_l_frac spFrac := by
  refine T.F_l_frac.ok sc_l_frac (fun vs H Q E h => ?_) (fun cdv A outer s H vs Q E hr h => ?_)
  · obtain ⟨t, l, rfl, _⟩ := h
    rfl
  · obtain ⟨t, l, rfl, hl, ht, hlb, q⟩ := h
    refine ⟨_, (pss_cons (ps_par (i := 2) (j := 3) (by rfl) sc_l_frac.nd rfl rfl (by decide) rfl rfl (pa_cons (pe_callB call_abs (by rfl) T.no_abs (by decide +kernel) (pa_cons (pv 0) pa_nil)) (pa_cons (pe_callB call_abs (by rfl) T.no_abs (by decide +kernel) (pa_cons (pv 1) pa_nil)) pa_nil)) (by rfl))
      (pss_cons (ps_while PassesOwn.never (pt_cmpR op_gt (pv 3) pe_int (nomark _)) (pss_one (ps_par (i := 2) (j := 3) (by rfl) sc_l_frac.nd rfl rfl (by decide) rfl rfl (pa_cons (pv 3) (pa_cons (pe_op op_mod (pv 2) (pv 3)) pa_nil)) (by rfl))))
      (pss_cons (ps_set (i := 4) sc_l_frac.nd rfl (by first | exact Or.inl rfl | exact Or.inr rfl) (pe_ifExp (pt_cmpR op_gt (pv 1) pe_int (nomark _)) pe_int (pe_un un_neg pe_int)))
      (pss_one (ps_ret (pe_tup (pa_cons (pe_op op_fdivA (pe_op op_mulW (pv 4) (pv 0)) (pv 2)) (pa_cons (pe_op op_fdivA (pe_callB call_abs (by rfl) T.no_abs (by decide +kernel) (pa_cons (pv 1) pa_nil)) (pv 2)) pa_nil)))))))), ?_⟩
    show tSeq _ _ _ [some (V.int t), some (V.int l), none, none, none] H
    simp only [tSeq, tIfS, tOp, tVar, tC, tCB, tCons, tNil, rI0, rI, tTest, tRet, tRetN, tNext, tAsg, gName, gNil, gCons, gTup, gUnl, tLst, tTup, tCall, tMeth, tMake, tUn, rU, tAndV, tOrV, tNotV, tAnd, tOr, tNot, tIf, tB, tFld, tDrop, tPar, tNever, tBM, rAppend, tSl, tPart, tNoPart, tM1, tyLst, List.getElem?_cons_zero, List.getElem?_cons_succ, Option.some.injEq, exists_eq_left', exists_eq_left, V.int.injEq, V.bl.injEq, V.str.injEq, V.ref.injEq, List.set_cons_zero, List.set_cons_succ, exists_and_left, exists_and_right, and_assoc, List.cons.injEq, and_true, true_and, List.cons_append, List.nil_append, List.append_nil, List.length_cons, List.length_nil, exists_eq', exists_eq, exists_const, exists_eq_right, exists_eq_right', cxK, Cx.nox, Cx.wish]
    refine while_by (fun σ H' => ∃ m n : Nat, σ = [some (V.int t), some (V.int l), some (V.int m), some (V.int n), none] ∧ H' = H ∧ Nat.gcd m n = Nat.gcd t.natAbs l.natAbs) (fun σ _ => match σ with | [_, _, _, some (V.int n), _] => n.natAbs | _ => 0)
      ⟨t.natAbs, l.natAbs, ?_, rfl, rfl⟩ ?_ ?_
    · rw [show (if t < 0 then -t else t) = (t.natAbs : Int) by split <;> omega, show (if l < 0 then -l else l) = (l.natAbs : Int) by split <;> omega]
    · rintro σ H' ⟨m, n, rfl, rfl, hg⟩
      simp only [tSeq, tIfS, tOp, tVar, tC, tCB, tCons, tNil, rI0, rI, tTest, tRet, tRetN, tNext, tAsg, gName, gNil, gCons, gTup, gUnl, tLst, tTup, tCall, tMeth, tMake, tUn, rU, tAndV, tOrV, tNotV, tAnd, tOr, tNot, tIf, tB, tFld, tDrop, tPar, tNever, tBM, rAppend, tSl, tPart, tNoPart, tM1, tyLst, List.getElem?_cons_zero, List.getElem?_cons_succ, Option.some.injEq, exists_eq_left', exists_eq_left, V.int.injEq, V.bl.injEq, V.str.injEq, V.ref.injEq, List.set_cons_zero, List.set_cons_succ, exists_and_left, exists_and_right, and_assoc, List.cons.injEq, and_true, true_and, List.cons_append, List.nil_append, List.append_nil, List.length_cons, List.length_nil, exists_eq', exists_eq, exists_const, exists_eq_right, exists_eq_right', cxK, Cx.nox, Cx.wish]
      refine ite2 (fun hb => ?_) (fun hb => ?_)
      · have hb := of_decide_eq_true hb
        refine ⟨hb, ⟨n, rfl, m % n, (Int.natCast_emod m n).symm, ?_⟩, ?_⟩
        · rw [Nat.gcd_comm, ← Nat.gcd_rec, Nat.gcd_comm]
          exact hg
        · show ((m : Int) % (n : Int)).natAbs < ((n : Int)).natAbs
          have h1 := Int.emod_lt_of_pos (m : Int) hb
          have h2 := Int.emod_nonneg (m : Int) (b := (n : Int)) (by omega)
          omega
      · have hb : ¬ (0 < (n : Int)) := fun z => hb (decide_eq_true z)
        obtain rfl : n = 0 := by omega
        rw [Nat.gcd_zero_right] at hg
        have em : (m : Int) = gcdI t l := by
          unfold gcdI
          rw [hg]
        rw [em]
        have hg0 := gcdI_pos (t := t) hl
        have hgb : (gcdI t l).natAbs < 2 ^ 4000 := Nat.lt_of_le_of_lt (gcdI_le hl) hlb
        have hd : ∀ i, CDivA i (gcdI t l) := fun i => divA_of 4000 (by omega) hgb (by decide) (by decide)
        have eL : (if l < 0 then -l else l).fdiv (gcdI t l) = fracL t l := by
          rw [show (if l < 0 then -l else l) = (l.natAbs : Int) by split <;> omega, Int.fdiv_eq_ediv_of_nonneg _ (by omega)]
          rfl
        have eT : ∀ s : Int, (s * t).fdiv (gcdI t l) = s * t / gcdI t l := fun s => Int.fdiv_eq_ediv_of_nonneg _ (by omega)
        rw [eL, eT, eT]
        refine ite2 (fun hp => ?_) (fun hp => ?_)
        · have hp := of_decide_eq_true hp
          have e : 1 * t / gcdI t l = fracT t l := by
            unfold fracT
            rw [if_pos hp]
          rw [e]
          exact ⟨mulWn 64 4000 (by decide) ht (by decide) (by decide) (by decide), hd _, hd _, by decide, fun p hp => q p hp⟩
        · have hp : ¬ 0 < l := fun z => hp (decide_eq_true z)
          have e : -1 * t / gcdI t l = fracT t l := by
            unfold fracT
            rw [if_neg hp]
          rw [e]
          exact ⟨mulWn 64 4000 (by decide) ht (by decide) (by decide) (by decide), hd _, hd _, by decide, fun p hp => q p hp⟩
    · intro σ H' Q1 Q2 hq h
      obtain ⟨v, h1, i, j, e1, e2, k, e3, h⟩ := h
      exact ⟨v, h1, i, j, e1, e2, k, e3, hq _ _ h⟩

/-! ### Part by rationals -/
theorem mk_partR {C x dx : Addr} {H : Hp} {t l : Int} {Q : VK} {E : XK} (hx : H x = none) (hd : H dx = none) (hl : l ≠ 0) (ht : t.natAbs < 2 ^ 4000) (hb : l.natAbs < 2 ^ 4000) (k : ∀ H', Ext H H' → PartR C H' x (Rat.divInt t l) → Q .non H') :
    spPartInit C [.ref x, .int t, .int l] (upd (upd H dx (.own x)) x (.ins C dx [])) Q E :=
  mk_partE hx hd hl ht hb fun H' e f => k H' e (by
    unfold PartR
    rw [← fracT_rat hl, ← fracL_rat hl]
    exact f)
theorem op_r {C p q : Addr} {H : Hp} {F G : Int → Int → Int → Int → Int} {x y z : Rat} {Q : VK} {E : XK} (hp : PartR C H p x) (hq : PartR C H q y) (sx : Sz x 1000) (sy : Sz y 1000) (hG : G x.num x.den y.num y.den ≠ 0) (hz : Rat.divInt (F x.num x.den y.num y.den) (G x.num x.den y.num y.den) = z)
    (k : ∀ (r : Addr) H', Ext H H' → H r = none → PartR C H' r z → Q (.ref r) H') : spPartOp C F G [.ref p, .ref q] H Q E := by
  refine ⟨p, q, _, _, _, _, rfl, hp, hq, hG, sx.n, sx.d, sy.n, sy.d, fun r H' e n h => k r H' e n ?_⟩
  unfold PartR
  rw [← hz, ← fracT_rat hG, ← fracL_rat hG]
  exact h
theorem plus_r {C p q : Addr} {H : Hp} {x y : Rat} {Q : VK} {E : XK} (hp : PartR C H p x) (hq : PartR C H q y) (sx : Sz x 1000) (sy : Sz y 1000) (k : ∀ (r : Addr) H', Ext H H' → H r = none → PartR C H' r (x + y) → Q (.ref r) H') :
    spPartOp C (fun t l t2 l2 => t * l2 + t2 * l) (fun t l t2 l2 => l * l2) [.ref p, .ref q] H Q E := op_r hp hq sx sy (mul_ne (den_ne x) (den_ne y)) (rat_add x y) k
theorem times_r {C p q : Addr} {H : Hp} {x y : Rat} {Q : VK} {E : XK} (hp : PartR C H p x) (hq : PartR C H q y) (sx : Sz x 1000) (sy : Sz y 1000) (k : ∀ (r : Addr) H', Ext H H' → H r = none → PartR C H' r (x * y) → Q (.ref r) H') :
    spPartOp C (fun t l t2 l2 => t * t2) (fun t l t2 l2 => l * l2) [.ref p, .ref q] H Q E := op_r hp hq sx sy (mul_ne (den_ne x) (den_ne y)) (rat_mul x y) k
theorem over_r {C p q : Addr} {H : Hp} {x y : Rat} {Q : VK} {E : XK} (hp : PartR C H p x) (hq : PartR C H q y) (sx : Sz x 1000) (sy : Sz y 1000) (h0 : y.num ≠ 0) (k : ∀ (r : Addr) H', Ext H H' → H r = none → PartR C H' r (x / y) → Q (.ref r) H') :
    spPartOp C (fun t l t2 l2 => t * l2) (fun t l t2 l2 => l * t2) [.ref p, .ref q] H Q E := op_r hp hq sx sy (mul_ne (den_ne x) h0) (rat_div x y) k
/-! ### _law_plus -/
def TupZ (H : Hp) (p : Addr) (t l : Int) : Prop := H p = some (.tup [.int t, .int l])
def spLPlus : Sp := fun vs H Q _ => ∃ (p q : Addr) (t l t2 l2 : Int), vs = [.ref p, .ref q] ∧ TupZ H p t l ∧ TupZ H q t2 l2 ∧ l ≠ 0 ∧ l2 ≠ 0 ∧ t.natAbs < 2 ^ 1000 ∧ l.natAbs < 2 ^ 1000 ∧ t2.natAbs < 2 ^ 1000 ∧ l2.natAbs < 2 ^ 1000 ∧
  ∀ r H', Ext H H' → H r = none → TupR H' r (Rat.divInt t l + Rat.divInt t2 l2) → Q (.ref r) H'
theorem ok_l_plus (T : Tx a K mg w) : FnOk P w K mg base CX0 2 a.f_l_plus a.d_l_plus ps_l_plus spLPlus := by
  refine T.F_l_plus.ok sc_l_plus (fun vs H Q E h => ?_) (fun cdv A outer s H vs Q E hr h => ?_)
  · obtain ⟨p, q, t, l, t2, l2, rfl, _⟩ := h
    rfl
  · obtain ⟨p, q, t, l, t2, l2, rfl, hp, hq, hl, hl2, b1, b2, b3, b4, k⟩ := h
    have G_l_frac := ok_l_frac (P := P) (w := w) (base := base) T
    have B_l_frac := bnd_l_frac T
    have hr_l_frac : Room 1 _ := hr.mono (by decide)
    refine ⟨_, (pss_one (ps_ret (pe_call G_l_frac hr_l_frac (by rfl) T.mg_l_frac T.F_l_frac.kp B_l_frac .nil pass0 (pa_cons (pe_op op_add (pe_op op_mulW (pe_ix ix_tup (pv 0) pe_int (fun _ _ => rfl)) (pe_ix ix_tup (pv 1) pe_int (fun _ _ => rfl))) (pe_op op_mulW (pe_ix ix_tup (pv 1) pe_int (fun _ _ => rfl)) (pe_ix ix_tup (pv 0) pe_int (fun _ _ => rfl)))) (pa_cons (pe_op op_mulW (pe_ix ix_tup (pv 0) pe_int (fun _ _ => rfl)) (pe_ix ix_tup (pv 1) pe_int (fun _ _ => rfl))) pa_nil))))), ?_⟩
    show tRet _ _ [some (V.ref p), some (V.ref q)] H
    simp only [rIxT, tSeq, tIfS, tOp, tVar, tC, tCB, tCons, tNil, rI0, rI, tTest, tRet, tRetN, tNext, tAsg, gName, gNil, gCons, gTup, gUnl, tLst, tTup, tCall, tMeth, tMake, tUn, rU, tAndV, tOrV, tNotV, tAnd, tOr, tNot, tIf, tB, tFld, tDrop, tPar, tNever, tBM, rAppend, tSl, tPart, tNoPart, tM1, tyLst, List.getElem?_cons_zero, List.getElem?_cons_succ, Option.some.injEq, exists_eq_left', exists_eq_left, V.int.injEq, V.bl.injEq, V.str.injEq, V.ref.injEq, List.set_cons_zero, List.set_cons_succ, exists_and_left, exists_and_right, and_assoc, List.cons.injEq, and_true, true_and, List.cons_append, List.nil_append, List.append_nil, List.length_cons, List.length_nil, exists_eq', exists_eq, exists_const, exists_eq_right, exists_eq_right', cxK, Cx.nox, Cx.wish]
    have m1 := mulB b1 b4
    have m2 := mulB b3 b2
    have m3 := mulB b2 b4
    refine ⟨_, ofT hp, _, atI_0, _, ofT hq, _, atI_1, _, rfl, _, rfl, m1.1, _, ofT hq, _, atI_0, _, ofT hp, _, atI_1, _, rfl, _, rfl, m2.1, _, ofT hp, _, atI_1, _, ofT hq, _, atI_1, _, rfl, _, rfl, m3.1, ?_⟩
    refine ⟨_, _, rfl, mul_ne hl hl2, addB m1.2 m2.2, Nat.lt_trans m3.2 (by decide), fun r hr => k r _ (Ext.upd hr) hr ?_⟩
    unfold TupR
    rw [upd_same, fracT_rat (mul_ne hl hl2), fracL_rat (mul_ne hl hl2), ← Rat.divInt_add_divInt _ _ hl hl2]
theorem lplus_r {p q : Addr} {H : Hp} {x y : Rat} {Q : VK} {E : XK} (hp : TupR H p x) (hq : TupR H q y) (sx : Sz x 1000) (sy : Sz y 1000) (k : ∀ r H', Ext H H' → H r = none → TupR H' r (x + y) → Q (.ref r) H') : spLPlus [.ref p, .ref q] H Q E :=
  ⟨p, q, _, _, _, _, rfl, hp, hq, den_ne x, den_ne y, sx.n, sx.d, sy.n, sy.d, fun r H' e n h => k r H' e n (by
    rw [Rat.num_divInt_den, Rat.num_divInt_den] at h
    exact h)⟩

theorem ty_Part (T : Tx a K mg w) {H : Hp} {p dx : Addr} {fs : List (Str × V)} (h : H p = some (.ins a.C_Part dx fs)) : TyX K H (.ref p) (.ref a.C_Part) := .base (.ins h T.cl_Part T.cc_Part T.cget T.ctk T.mro_Part)
theorem ty_Purse (T : Tx a K mg w) {H : Hp} {p dx : Addr} {fs : List (Str × V)} (h : H p = some (.ins a.C_Purse dx fs)) : TyX K H (.ref p) (.ref a.C_Purse) := .base (.ins h T.cl_Purse T.cc_Purse T.cget T.ctk T.mro_Purse)

def spPartEq (K : PySem.W.Frag) (C : Addr) : Sp := fun vs H Q _ => ∃ (p : Addr) (t l : Int) (y : V), vs = [.ref p, y] ∧ PartAt C H p t l ∧
  ((∃ (q : Addr) (t2 l2 : Int), y = .ref q ∧ PartAt C H q t2 l2 ∧ Q (.bl (decide (t = t2) && decide (l = l2))) H) ∨ ∃ ty, TyX K H y ty ∧ PySem.W.kitOne K ty (.ref C) = some false ∧ Q (.bl false) H)
theorem ok_Part_eq (T : Tx a K mg w) : FnOk P w K mg base CX0 1 a.f_Part_eq a.d_Part_eq ps_Part_eq (spPartEq K a.C_Part) := by
  refine T.F_Part_eq.ok sc_Part_eq (fun vs H Q E h => ?_) (fun cdv A outer s H vs Q E hr h => ?_)
  · obtain ⟨p, t, l, y, rfl, _⟩ := h
    rfl
  · obtain ⟨p, t, l, y, rfl, ⟨dx, hp⟩, h⟩ := h
    refine ⟨_, (pss_one (ps_ret (pe_and (pe_callB call_isi (by rfl) T.no_isinstance (by decide +kernel) (pa_cons (pv 1) (pa_cons (pe_glob (v := V.ref a.C_Part) rfl T.mg_Part rfl) pa_nil))) (pe_and (pe_cmpR op_eq (pe_fld (pv 0) rfl) (pe_fld (pv 1) rfl) (nomark _)) (pe_one (pe_cmpR op_eq (pe_fld (pv 0) rfl) (pe_fld (pv 1) rfl) (nomark _))))))), ?_⟩
    show tRet _ _ [some (V.ref p), some y] H
    simp only [rIsi, rEq, tSeq, tIfS, tOp, tVar, tC, tCB, tCons, tNil, rI0, rI, tTest, tRet, tRetN, tNext, tAsg, gName, gNil, gCons, gTup, gUnl, tLst, tTup, tCall, tMeth, tMake, tUn, rU, tAndV, tOrV, tNotV, tAnd, tOr, tNot, tIf, tB, tFld, tDrop, tPar, tNever, tBM, rAppend, tSl, tPart, tNoPart, tM1, tyLst, List.getElem?_cons_zero, List.getElem?_cons_succ, Option.some.injEq, exists_eq_left', exists_eq_left, V.int.injEq, V.bl.injEq, V.str.injEq, V.ref.injEq, List.set_cons_zero, List.set_cons_succ, exists_and_left, exists_and_right, and_assoc, List.cons.injEq, and_true, true_and, List.cons_append, List.nil_append, List.append_nil, List.length_cons, List.length_nil, exists_eq', exists_eq, exists_const, exists_eq_right, exists_eq_right', cxK, Cx.nox, Cx.wish]
    rcases h with ⟨q, t2, l2, rfl, ⟨dy, hq⟩, h⟩ | ⟨ty, h1, h2, h⟩
    · refine ⟨_, _, .own a.C_Part, ty_Part T hq, true, T.kit_Part_Part, iteT ?_⟩
      refine ⟨_, _, _, hp, T.cl_Part, T.na_Part_top, _, fsP_top t l, q, rfl, _, _, _, hq, T.cl_Part, T.na_Part_top, _, fsP_top t2 l2, rfl, ite2 (fun h0 => ?_) (fun h0 => ?_)⟩
      · have h0 : t = t2 := V.int.inj (of_decide_eq_true h0)
        refine ⟨_, _, _, hp, T.cl_Part, T.na_Part_low, _, fsP_low t l, q, rfl, _, _, _, hq, T.cl_Part, T.na_Part_low, _, fsP_low t2 l2, rfl, ?_⟩
        rw [decide_eq_true h0, Bool.true_and] at h
        rw [show decide (V.int l = V.int l2) = decide (l = l2) from decide_eq_decide.mpr ⟨V.int.inj, congrArg V.int⟩]
        exact h
      · have h0 : ¬ t = t2 := fun z => h0 (decide_eq_true (congrArg V.int z))
        rw [decide_eq_false h0, Bool.false_and] at h
        exact h
    · exact ⟨_, _, .own a.C_Part, h1, false, h2, iteF h⟩

end
end My

set_option Elab.async false
set_option maxRecDepth 100000
set_option maxHeartbeats 4000000
set_option linter.all false
namespace My
open PySem L2 Own
section
variable {P : Program} {w : World} {K : PySem.W.Frag} {mg : Str → Option Value} {base : Heap} {a : Adr}
/-! ### Purse: of rows in any order, names several times -/
def spPurseG (K : PySem.W.Frag) (C CP : Addr) : Sp := fun vs H Q _ => ∃ (p dx r : Addr) (ts : List Addr) (es : List (Str × Rat)) (b : Nat), vs = [.ref p, .ref r] ∧ H p = some (.ins C dx []) ∧ (SqL K H r (ts.map V.ref) ∨ SqT K H r (ts.map V.ref)) ∧ Paired (RowP CP H) ts es ∧
  (∀ e ∈ es, Sz e.2 b) ∧ 1 + es.length * (b + 1) ≤ 1000 ∧ es.length < 64 ∧
  ∀ H' hs d, Canon hs → (∀ n, val hs n = val es n) → (∀ b o, H b = some o → b ≠ p → H' b = some o) → H d = none → PurD C CP H' p d hs → Q .non H'
def PvG (CP : Addr) (H2 : Hp) (D : Addr) (es : List (Str × Rat)) (ys : List Str) (i : Nat) (H' : Hp) : Prop := ∃ kvs hs, H' = upd H2 D (.dK kvs) ∧ kvs.length ≤ i ∧ Paired (Ent (PartR CP H2)) kvs hs ∧ hs = (ys.take i).filterMap (pick es)
theorem pick_name {es : List (Str × Rat)} {ys : List Str} {i : Nat} {n : Str} (h : n ∈ ((ys.take i).filterMap (pick es)).map (·.1)) : n ∈ ys.take i := by
  obtain ⟨e, he, rfl⟩ := List.mem_map.mp h
  obtain ⟨m, hm, h2⟩ := List.mem_filterMap.mp he
  unfold pick at h2
  split at h2
  · cases h2
  · cases h2
    exact hm
theorem ok_Purse_init (T : Tx a K mg w) : FnOk P w K mg base CX0 4 a.f_Purse_init a.d_Purse_init ps_Purse_init (spPurseG K a.C_Purse a.C_Part) := by
  refine okD T.F_Purse_init sc_Purse_init (fun vs H Q E h => ?_) (fun cdv A outer s H vs Q E hr h => ?_)
  · obtain ⟨p, dx, r, ts, es, b, rfl, _⟩ := h
    rfl
  · obtain ⟨p, dx, r, ts, es, b, rfl, hp, hr0, hR, hsz, hbz, hln, k⟩ := h
    have hu := hu_of hr
    have G_Part_sign := ok_Part_sign (P := P) (w := w) (base := base) T
    have B_Part_sign := bnd_Part_sign T
    have hr_Part_sign : Room 1 _ := hr.mono (by decide)
    have G_Part_plus := ok_Part_plus (P := P) (w := w) (base := base) T
    have B_Part_plus := bnd_Part_plus T
    have hr_Part_plus : Room 3 _ := hr.mono (by decide)
    have hlt : ts.length = es.length := Paired.length hR
    have hz16 : sizeLine = 16777216 := rfl
    have hst : ∀ i, ∀ e ∈ sums (es.take i), Sz e.2 1000 := fun i e he => (sums_sz (fun x hx => hsz x (List.mem_of_mem_take hx)) e he).mono (by
      have h1 : (es.take i).length ≤ es.length := by rw [List.length_take]; omega
      have h2 : (es.take i).length * (b + 1) ≤ es.length * (b + 1) := Nat.mul_le_mul_right _ h1
      omega)
    have hb9 : ∀ e ∈ es, Sz e.2 1000 := fun e he => (hsz e he).mono (by
      have h1 : 1 ≤ es.length := List.length_pos_of_mem he
      have h2 : 1 * (b + 1) ≤ es.length * (b + 1) := Nat.mul_le_mul_right _ h1
      omega)
    rcases hr0 with hr0 | hr0
    · refine ⟨_, (pss_cons (ps_set (i := 2) sc_Purse_init.nd rfl (by first | exact Or.inl rfl | exact Or.inr rfl) pe_dnewK)
      (pss_cons (ps_for PassesOwn.never rfl (pi_list (pv 1)) (pg_tup rfl (pgs_cons (pg_name (i := 3) sc_Purse_init.nd rfl (by first | exact Or.inl rfl | exact Or.inr rfl)) (pgs_cons (pg_name (i := 4) sc_Purse_init.nd rfl (by first | exact Or.inl rfl | exact Or.inr rfl)) pgs_nil)) (by rfl))
        (pss_one (ps_dput hu (pv 2) (pv 3) (pe_ifExp (pt_cmp (pc_din hu (pv 3) (pv 2))) (pe_meth (pe_dget hu (pv 2) (pv 3) (fun _ _ => rfl)) T.cl_Part T.m_Part_plus G_Part_plus hr_Part_plus B_Part_plus .nil pass0 (pa_cons (pv 4) pa_nil)) (pv 4)) rfl)))
      (pss_one (ps_fld (pv 0) (pe_dc (own := [("coin", 3)]) (g := gName 3) rfl sc_Purse_init.nd (pi_list (pe_callB (cr_sortN rfl) (by rfl) T.no_sorted (by decide +kernel) (pa_cons (pv 2) pa_nil))) (blkOk_by (own := [("coin", 3)]) (N := N_Purse_init) (sc := defScope s_Purse_init) (by decide +kernel)) (fun _ _ _ _ _ => pg_name (i := 3) sc_Purse_init.nd rfl (Or.inl rfl)) (fun _ _ _ _ _ => (pts_one (pt_cmpR op_ne (pe_meth0 (pe_dget hu (pv 2) (pv 3) (fun _ _ => rfl)) T.cl_Part T.m_Part_sign G_Part_sign hr_Part_sign B_Part_sign .nil pass0) pe_int (nomark _)))) (fun _ _ _ _ _ => (pv 3)) (fun _ _ _ _ _ => (pe_dget hu (pv 2) (pv 3) (fun _ _ => rfl)))) rfl)))), ?_⟩
      show tSeq _ _ _ [some (V.ref p), some (V.ref r), none, none, none] H
      refine seq_i fun N hN => ?_
      simp only [tDNewK, tSeq, tIfS, tOp, tVar, tC, tCB, tCons, tNil, rI0, rI, tTest, tRet, tRetN, tNext, tAsg, gName, gNil, gCons, gTup, gUnl, tLst, tTup, tCall, tMeth, tMake, tUn, rU, tAndV, tOrV, tNotV, tAnd, tOr, tNot, tIf, tB, tFld, tDrop, tPar, tNever, tBM, rAppend, tSl, tPart, tNoPart, tM1, tyLst, List.getElem?_cons_zero, List.getElem?_cons_succ, Option.some.injEq, exists_eq_left', exists_eq_left, V.int.injEq, V.bl.injEq, V.str.injEq, V.ref.injEq, List.set_cons_zero, List.set_cons_succ, exists_and_left, exists_and_right, and_assoc, List.cons.injEq, and_true, true_and, List.cons_append, List.nil_append, List.append_nil, List.length_cons, List.length_nil, exists_eq', exists_eq, exists_const, exists_eq_right, exists_eq_right', cxK, Cx.nox, Cx.wish]
      intro d hd
      generalize hH1 : upd H d _ = H1
      obtain ⟨e1, f1⟩ := alloc hd hH1
      refine hN _ _ ?_
      clear hN N hH1
      have hr1 := seqL hr0 e1
      have hR1 := rowP_ext hR e1
      refine seq_i fun N hN => ?_
      refine tFor_i (J := Itl K r) (fun R q => by simp only [iList, tSeq, tIfS, tOp, tVar, tC, tCB, tCons, tNil, rI0, rI, tTest, tRet, tRetN, tNext, tAsg, gName, gNil, gCons, gTup, gUnl, tLst, tTup, tCall, tMeth, tMake, tUn, rU, tAndV, tOrV, tNotV, tAnd, tOr, tNot, tIf, tB, tFld, tDrop, tPar, tNever, tBM, rAppend, tSl, tPart, tNoPart, tM1, tyLst, List.getElem?_cons_zero, List.getElem?_cons_succ, Option.some.injEq, exists_eq_left', exists_eq_left, V.int.injEq, V.bl.injEq, V.str.injEq, V.ref.injEq, List.set_cons_zero, List.set_cons_succ, exists_and_left, exists_and_right, and_assoc, List.cons.injEq, and_true, true_and, List.cons_append, List.nil_append, List.append_nil, List.length_cons, List.length_nil, exists_eq', exists_eq, exists_const, exists_eq_right, exists_eq_right', cxK, Cx.nox, Cx.wish]; exact ⟨⟨_, hr1⟩, q⟩) (walk_list (K := K) (a := r) (xs := ts.map V.ref)) (fun i σ H' => ∃ v3 v4 kvs, σ = [some (V.ref p), some (V.ref r), some (V.ref d), v3, v4] ∧ Ext H H' ∧ SqL K H' r (ts.map V.ref) ∧ Paired (RowP a.C_Part H') ts es ∧ H' d = some (.dK kvs) ∧ Paired (Ent (PartR a.C_Part H')) kvs (sums (es.take i)))
        ⟨_, _, [], rfl, e1, hr1, hR1, f1, .nil⟩ (fun i σ H' _ h => by
          obtain ⟨_, _, _, _, _, h, _⟩ := h
          exact h) ?_ ?_
      · rintro i y σ H2 H3 hi ⟨v3, v4, kvs, rfl, e2, hr2, hR2, f2, hP⟩ ⟨rfl, hy⟩
        obtain ⟨t, hti, rfl⟩ : ∃ t, ts[i]? = some t ∧ y = V.ref t := by
          rw [List.getElem?_map] at hy
          cases e : ts[i]? with
          | none => rw [e] at hy; cases hy
          | some t => rw [e] at hy; exact ⟨t, rfl, (Option.some.inj hy).symm⟩
        obtain ⟨e, hei, q, ht, hq⟩ := LiI.paired_get hR2 hti
        have hkl : kvs.length = (sums (es.take i)).length := Paired.length hP
        have hsl := sums_len (rs := es.take i)
        rw [List.length_take] at hsl
        have hkz : kvs.length < sizeLine := by omega
        simp only [tDIn, sDPut, tDGet, tSeq, tIfS, tOp, tVar, tC, tCB, tCons, tNil, rI0, rI, tTest, tRet, tRetN, tNext, tAsg, gName, gNil, gCons, gTup, gUnl, tLst, tTup, tCall, tMeth, tMake, tUn, rU, tAndV, tOrV, tNotV, tAnd, tOr, tNot, tIf, tB, tFld, tDrop, tPar, tNever, tBM, rAppend, tSl, tPart, tNoPart, tM1, tyLst, List.getElem?_cons_zero, List.getElem?_cons_succ, Option.some.injEq, exists_eq_left', exists_eq_left, V.int.injEq, V.bl.injEq, V.str.injEq, V.ref.injEq, List.set_cons_zero, List.set_cons_succ, exists_and_left, exists_and_right, and_assoc, List.cons.injEq, and_true, true_and, List.cons_append, List.nil_append, List.append_nil, List.length_cons, List.length_nil, exists_eq', exists_eq, exists_const, exists_eq_right, exists_eq_right', cxK, Cx.nox, Cx.wish]
        refine ⟨_, ofT ht, rfl, ?_⟩
        simp only [tSeq, tIfS, tOp, tVar, tC, tCB, tCons, tNil, rI0, rI, tTest, tRet, tRetN, tNext, tAsg, gName, gNil, gCons, gTup, gUnl, tLst, tTup, tCall, tMeth, tMake, tUn, rU, tAndV, tOrV, tNotV, tAnd, tOr, tNot, tIf, tB, tFld, tDrop, tPar, tNever, tBM, rAppend, tSl, tPart, tNoPart, tM1, tyLst, List.getElem?_cons_zero, List.getElem?_cons_succ, Option.some.injEq, exists_eq_left', exists_eq_left, V.int.injEq, V.bl.injEq, V.str.injEq, V.ref.injEq, List.set_cons_zero, List.set_cons_succ, exists_and_left, exists_and_right, and_assoc, List.cons.injEq, and_true, true_and, List.cons_append, List.nil_append, List.append_nil, List.length_cons, List.length_nil, exists_eq', exists_eq, exists_const, exists_eq_right, exists_eq_right', cxK, Cx.nox, Cx.wish]
        refine ⟨_, DGet.k (k := Sum.inr e.1) f2, ?_⟩
        have fin : ∀ (H4 : Hp) (z : Addr), Ext H3 H4 → Paired (Ent (PartR a.C_Part H4)) (putK kvs (Sum.inr e.1) (V.ref z)) (addR (sums (es.take i)) e.1 e.2) →
            Ext H (upd H4 d (.dK (putK kvs (Sum.inr e.1) (V.ref z)))) ∧ SqL K (upd H4 d (.dK (putK kvs (Sum.inr e.1) (V.ref z)))) r (ts.map V.ref) ∧ Paired (RowP a.C_Part (upd H4 d (.dK (putK kvs (Sum.inr e.1) (V.ref z))))) ts es ∧
              ∃ kvs', upd H4 d (.dK (putK kvs (Sum.inr e.1) (V.ref z))) d = some (.dK kvs') ∧ Paired (Ent (PartR a.C_Part (upd H4 d (.dK (putK kvs (Sum.inr e.1) (V.ref z)))))) kvs' (sums (es.take (i + 1))) := fun H4 z e34 hP4 => by
          have f4 := e34 _ _ f2
          have oD : Off d H4 (upd H4 d (.dK (putK kvs (Sum.inr e.1) (V.ref z)))) := Off.upd
          have eH : Ext H (upd H4 d (.dK (putK kvs (Sum.inr e.1) (V.ref z)))) := upd_ext (e2.trans e34) hd
          refine ⟨eH, seqL hr0 eH, rowP_ext hR eH, _, upd_same, ?_⟩
          rw [take_snoc hei, sums_snoc]
          exact ent_mono hP4 fun _ _ y => y.off f4 oD
        by_cases hn : e.1 ∈ (sums (es.take i)).map (·.1)
        · obtain ⟨x, hx, hx1⟩ := List.mem_map.mp hn
          obtain ⟨q0, hv, hq0⟩ := ent_get hP sums_nd hx
          rw [hx1] at hv
          rw [hv]
          refine iteT ⟨_, hv ▸ DGet.k (k := Sum.inr e.1) f2, ?_⟩
          obtain ⟨dq0, hq00⟩ := hq0
          refine ⟨q0, rfl, _, _, hq00, fsP_no _ _ (by decide +kernel) (by decide +kernel), ?_⟩
          refine plus_r (x := x.2) ⟨dq0, hq00⟩ hq (hst i x hx) (hb9 e (List.mem_of_getElem? hei)) fun z H4 e4 _ hz => ?_
          refine ⟨_, DPut.k (k := Sum.inr e.1) (e4 _ _ f2) hkz, ?_⟩
          exact fin H4 z e4 (ent_put_old (ent_mono hP fun _ _ y => y.ext e4) sums_nd (by rw [← hx1]; exact hx) hz)
        · rw [val_none (ent_miss hP hn)]
          refine iteF ⟨_, DPut.k (k := Sum.inr e.1) f2 hkz, ?_⟩
          exact fin H3 q (Ext.refl' _) (ent_put_new hP hn hq)
      · rintro σ H2 ⟨v3, v4, kvs, rfl, e2, hr2, hR2, f2, hP⟩
        refine hN _ _ ?_
        clear hN N
        rw [List.take_of_length_le (by rw [List.length_map]; omega)] at hP
        have hkl : kvs.length = (sums es).length := Paired.length hP
        have hsl := sums_len (rs := es)
        simp only [sFld, tSeq, tIfS, tOp, tVar, tC, tCB, tCons, tNil, rI0, rI, tTest, tRet, tRetN, tNext, tAsg, gName, gNil, gCons, gTup, gUnl, tLst, tTup, tCall, tMeth, tMake, tUn, rU, tAndV, tOrV, tNotV, tAnd, tOr, tNot, tIf, tB, tFld, tDrop, tPar, tNever, tBM, rAppend, tSl, tPart, tNoPart, tM1, tyLst, List.getElem?_cons_zero, List.getElem?_cons_succ, Option.some.injEq, exists_eq_left', exists_eq_left, V.int.injEq, V.bl.injEq, V.str.injEq, V.ref.injEq, List.set_cons_zero, List.set_cons_succ, exists_and_left, exists_and_right, and_assoc, List.cons.injEq, and_true, true_and, List.cons_append, List.nil_append, List.append_nil, List.length_cons, List.length_nil, exists_eq', exists_eq, exists_const, exists_eq_right, exists_eq_right', cxK, Cx.nox, Cx.wish]
        refine dc_sorted (ks := (sums es).map (·.1)) rfl f2 (ent_keys hP) (by rw [List.length_map]; omega) fun ys s0 D H3 hy hsrt e3 f3 hD => ?_
        have f2' : H3 d = some (.dK kvs) := e3 _ _ f2
        have eD : ∀ u, Ext H3 (upd H3 D u) := fun u => Ext.upd hD
        have hP3 := ent_mono (R' := PartR a.C_Part H3) hP fun _ _ y => y.ext e3
        have ndy : ys.Nodup := hy.nodup_iff.mpr sums_nd
        have hyl : ys.length = (sums es).length := by rw [hy.length_eq, List.length_map]
        refine ⟨PvG a.C_Part H3 D (sums es) ys, ⟨[], [], rfl, Nat.le_refl _, .nil, rfl⟩, ?_, ?_, ?_⟩
        · rintro i H' ⟨_, _, rfl, _⟩
          exact eD _ _ _ f3
        · rintro i y H' hy2 ⟨kvs2, hs2, rfl, hk2, hP4, hs⟩
          have hil : i < ys.length := (List.getElem?_eq_some_iff.mp hy2).1
          obtain ⟨e, he, rfl⟩ := List.mem_map.mp (hy.mem_iff.mp (List.mem_of_getElem? hy2))
          obtain ⟨q, hv, dq, hq⟩ := ent_get hP3 sums_nd he
          refine ⟨rfl, ?_⟩
          have ew : (wipe [some (V.ref p), some (V.ref r), some (V.ref d), v3, v4] (List.map (fun x => x.snd) [(Str.ofString "coin", 3)])) = [some (V.ref p), some (V.ref r), some (V.ref d), none, v4] := rfl
          have fd : upd H3 D (.dK kvs2) d = some (.dK kvs) := eD _ _ _ f2'
          have hq2 : ∀ u, upd H3 D u q = some (.ins a.C_Part dq (fsP e.2.num e.2.den)) := fun u => eD _ _ _ hq
          simp only [ew, tDGet, rNe, tSeq, tIfS, tOp, tVar, tC, tCB, tCons, tNil, rI0, rI, tTest, tRet, tRetN, tNext, tAsg, gName, gNil, gCons, gTup, gUnl, tLst, tTup, tCall, tMeth, tMake, tUn, rU, tAndV, tOrV, tNotV, tAnd, tOr, tNot, tIf, tB, tFld, tDrop, tPar, tNever, tBM, rAppend, tSl, tPart, tNoPart, tM1, tyLst, List.getElem?_cons_zero, List.getElem?_cons_succ, Option.some.injEq, exists_eq_left', exists_eq_left, V.int.injEq, V.bl.injEq, V.str.injEq, V.ref.injEq, List.set_cons_zero, List.set_cons_succ, exists_and_left, exists_and_right, and_assoc, List.cons.injEq, and_true, true_and, List.cons_append, List.nil_append, List.append_nil, List.length_cons, List.length_nil, exists_eq', exists_eq, exists_const, exists_eq_right, exists_eq_right', cxK, Cx.nox, Cx.wish]
          have hve := val_mem (n := e.1) sums_nd he
          refine ⟨V.ref q, hv ▸ DGet.k (k := Sum.inr e.1) fd, q, rfl, _, _, hq2 _, fsP_no _ _ (m := "sign") (by decide +kernel) (by decide +kernel), q, _, _, rfl, ⟨dq, hq2 _⟩, rfl, ite2 (fun hb => ?_) (fun hb => ?_)⟩
          · have hne : ¬ e.2 = 0 := fun z => by
              rw [z] at hb
              revert hb
              decide +kernel
            have hm : ∀ kv ∈ kvs2, ¬ kv.1 = Sum.inr e.1 := ent_miss hP4 fun z => by
              rw [hs] at z
              have hu1 := pick_name z
              have nd2 := ndy
              rw [← List.take_append_drop i ys] at nd2
              refine (List.nodup_append.mp nd2).2.2 e.1 hu1 e.1 ?_ rfl
              rw [List.mem_iff_getElem?]
              exact ⟨0, by rw [List.getElem?_drop]; simpa using hy2⟩
            refine ⟨V.ref q, hv ▸ DGet.k (k := Sum.inr e.1) fd, kvs2, Sum.inr e.1, rfl, upd_same, by omega, ?_⟩
            rw [upd_upd, put_new hm]
            refine ⟨_, hs2 ++ [e], rfl, by rw [List.length_append]; exact Nat.succ_le_succ hk2, Paired.snoc hP4 ⟨q, rfl, dq, hq⟩, ?_⟩
            rw [take_snoc hy2, List.filterMap_append, ← hs, List.filterMap_cons]
            unfold pick
            rw [hve, if_neg hne]
            rfl
          · have hz : e.2 = 0 := by
              have hs0 : sgn e.2.num = 0 := by
                cases hd : decide (V.int (sgn e.2.num) = V.int 0) with
                | true => exact V.int.inj (of_decide_eq_true hd)
                | false => exact absurd (by rw [hd]; rfl) hb
              have hn0 : e.2.num = 0 := by
                unfold sgn at hs0
                split at hs0
                · assumption
                · split at hs0
                  · cases hs0
                  · cases hs0
              rw [← Rat.num_divInt_den e.2, hn0, Rat.zero_divInt]
            refine ⟨kvs2, hs2, rfl, by omega, hP4, ?_⟩
            rw [take_snoc hy2, List.filterMap_append, ← hs, List.filterMap_cons]
            unfold pick
            rw [hve, if_pos hz]
            exact (List.append_nil _).symm
        · rintro H' ⟨kvs2, hs2, rfl, hk2, hP4, hs⟩
          rw [List.take_length] at hs
          have hp2 : upd H3 D (.dK kvs2) p = some (.ins a.C_Purse dx []) := eD _ _ _ (e3 _ _ (e2 _ _ hp))
          refine ⟨_, _, _, hp2, T.cl_Purse, T.na_Purse__held, (by show 0 < 1000; decide), ?_⟩
          have hDp : D ≠ p := fun z => by
            rw [z, e3 _ _ (e2 _ _ hp)] at hD
            cases hD
          have hcan : Canon hs2 := hs ▸ pick_canon hsrt ndy
          have hval : ∀ n, val hs2 n = val es n := fun n => by
            rw [hs, pick_val ndy (fun m hm => hy.mem_iff.mpr (Classical.byContradiction fun z => hm (val_miss z))), sums_val]
          refine k _ hs2 D hcan hval (fun b o hb hne => ?_) (none_back (e2.trans e3) hD) ⟨dx, kvs2, upd_same, by rw [upd_ne hDp]; exact upd_same, ent_mono hP4 fun q x y => ?_⟩
          · rw [upd_ne hne]
            exact eD _ _ _ (e3 _ _ (e2 _ _ hb))
          · obtain ⟨dq, z2⟩ := y
            refine ⟨dq, ?_⟩
            rw [upd_ne (fun y => by
              have := eD (.dK kvs2) _ _ z2
              rw [y, hp2] at this
              have := HO.ins.inj (Option.some.inj this)
              cases this.2.2)]
            exact eD _ _ _ z2

    · refine ⟨_, (pss_cons (ps_set (i := 2) sc_Purse_init.nd rfl (by first | exact Or.inl rfl | exact Or.inr rfl) pe_dnewK)
      (pss_cons (ps_for PassesOwn.never rfl (pi_tup (pv 1)) (pg_tup rfl (pgs_cons (pg_name (i := 3) sc_Purse_init.nd rfl (by first | exact Or.inl rfl | exact Or.inr rfl)) (pgs_cons (pg_name (i := 4) sc_Purse_init.nd rfl (by first | exact Or.inl rfl | exact Or.inr rfl)) pgs_nil)) (by rfl))
        (pss_one (ps_dput hu (pv 2) (pv 3) (pe_ifExp (pt_cmp (pc_din hu (pv 3) (pv 2))) (pe_meth (pe_dget hu (pv 2) (pv 3) (fun _ _ => rfl)) T.cl_Part T.m_Part_plus G_Part_plus hr_Part_plus B_Part_plus .nil pass0 (pa_cons (pv 4) pa_nil)) (pv 4)) rfl)))
      (pss_one (ps_fld (pv 0) (pe_dc (own := [("coin", 3)]) (g := gName 3) rfl sc_Purse_init.nd (pi_list (pe_callB (cr_sortN rfl) (by rfl) T.no_sorted (by decide +kernel) (pa_cons (pv 2) pa_nil))) (blkOk_by (own := [("coin", 3)]) (N := N_Purse_init) (sc := defScope s_Purse_init) (by decide +kernel)) (fun _ _ _ _ _ => pg_name (i := 3) sc_Purse_init.nd rfl (Or.inl rfl)) (fun _ _ _ _ _ => (pts_one (pt_cmpR op_ne (pe_meth0 (pe_dget hu (pv 2) (pv 3) (fun _ _ => rfl)) T.cl_Part T.m_Part_sign G_Part_sign hr_Part_sign B_Part_sign .nil pass0) pe_int (nomark _)))) (fun _ _ _ _ _ => (pv 3)) (fun _ _ _ _ _ => (pe_dget hu (pv 2) (pv 3) (fun _ _ => rfl)))) rfl)))), ?_⟩
      show tSeq _ _ _ [some (V.ref p), some (V.ref r), none, none, none] H
      refine seq_i fun N hN => ?_
      simp only [tDNewK, tSeq, tIfS, tOp, tVar, tC, tCB, tCons, tNil, rI0, rI, tTest, tRet, tRetN, tNext, tAsg, gName, gNil, gCons, gTup, gUnl, tLst, tTup, tCall, tMeth, tMake, tUn, rU, tAndV, tOrV, tNotV, tAnd, tOr, tNot, tIf, tB, tFld, tDrop, tPar, tNever, tBM, rAppend, tSl, tPart, tNoPart, tM1, tyLst, List.getElem?_cons_zero, List.getElem?_cons_succ, Option.some.injEq, exists_eq_left', exists_eq_left, V.int.injEq, V.bl.injEq, V.str.injEq, V.ref.injEq, List.set_cons_zero, List.set_cons_succ, exists_and_left, exists_and_right, and_assoc, List.cons.injEq, and_true, true_and, List.cons_append, List.nil_append, List.append_nil, List.length_cons, List.length_nil, exists_eq', exists_eq, exists_const, exists_eq_right, exists_eq_right', cxK, Cx.nox, Cx.wish]
      intro d hd
      generalize hH1 : upd H d _ = H1
      obtain ⟨e1, f1⟩ := alloc hd hH1
      refine hN _ _ ?_
      clear hN N hH1
      have hr1 := SqT.ext hr0 e1
      have hR1 := rowP_ext hR e1
      refine seq_i fun N hN => ?_
      refine tFor_i (J := Itt K r) (fun R q => by simp only [iTup, tSeq, tIfS, tOp, tVar, tC, tCB, tCons, tNil, rI0, rI, tTest, tRet, tRetN, tNext, tAsg, gName, gNil, gCons, gTup, gUnl, tLst, tTup, tCall, tMeth, tMake, tUn, rU, tAndV, tOrV, tNotV, tAnd, tOr, tNot, tIf, tB, tFld, tDrop, tPar, tNever, tBM, rAppend, tSl, tPart, tNoPart, tM1, tyLst, List.getElem?_cons_zero, List.getElem?_cons_succ, Option.some.injEq, exists_eq_left', exists_eq_left, V.int.injEq, V.bl.injEq, V.str.injEq, V.ref.injEq, List.set_cons_zero, List.set_cons_succ, exists_and_left, exists_and_right, and_assoc, List.cons.injEq, and_true, true_and, List.cons_append, List.nil_append, List.append_nil, List.length_cons, List.length_nil, exists_eq', exists_eq, exists_const, exists_eq_right, exists_eq_right', cxK, Cx.nox, Cx.wish]; exact ⟨⟨_, hr1⟩, q⟩) (walk_tup (K := K) (a := r) (xs := ts.map V.ref)) (fun i σ H' => ∃ v3 v4 kvs, σ = [some (V.ref p), some (V.ref r), some (V.ref d), v3, v4] ∧ Ext H H' ∧ SqT K H' r (ts.map V.ref) ∧ Paired (RowP a.C_Part H') ts es ∧ H' d = some (.dK kvs) ∧ Paired (Ent (PartR a.C_Part H')) kvs (sums (es.take i)))
        ⟨_, _, [], rfl, e1, hr1, hR1, f1, .nil⟩ (fun i σ H' _ h => by
          obtain ⟨_, _, _, _, _, h, _⟩ := h
          exact h) ?_ ?_
      · rintro i y σ H2 H3 hi ⟨v3, v4, kvs, rfl, e2, hr2, hR2, f2, hP⟩ ⟨rfl, hy⟩
        obtain ⟨t, hti, rfl⟩ : ∃ t, ts[i]? = some t ∧ y = V.ref t := by
          rw [List.getElem?_map] at hy
          cases e : ts[i]? with
          | none => rw [e] at hy; cases hy
          | some t => rw [e] at hy; exact ⟨t, rfl, (Option.some.inj hy).symm⟩
        obtain ⟨e, hei, q, ht, hq⟩ := LiI.paired_get hR2 hti
        have hkl : kvs.length = (sums (es.take i)).length := Paired.length hP
        have hsl := sums_len (rs := es.take i)
        rw [List.length_take] at hsl
        have hkz : kvs.length < sizeLine := by omega
        simp only [tDIn, sDPut, tDGet, tSeq, tIfS, tOp, tVar, tC, tCB, tCons, tNil, rI0, rI, tTest, tRet, tRetN, tNext, tAsg, gName, gNil, gCons, gTup, gUnl, tLst, tTup, tCall, tMeth, tMake, tUn, rU, tAndV, tOrV, tNotV, tAnd, tOr, tNot, tIf, tB, tFld, tDrop, tPar, tNever, tBM, rAppend, tSl, tPart, tNoPart, tM1, tyLst, List.getElem?_cons_zero, List.getElem?_cons_succ, Option.some.injEq, exists_eq_left', exists_eq_left, V.int.injEq, V.bl.injEq, V.str.injEq, V.ref.injEq, List.set_cons_zero, List.set_cons_succ, exists_and_left, exists_and_right, and_assoc, List.cons.injEq, and_true, true_and, List.cons_append, List.nil_append, List.append_nil, List.length_cons, List.length_nil, exists_eq', exists_eq, exists_const, exists_eq_right, exists_eq_right', cxK, Cx.nox, Cx.wish]
        refine ⟨_, ofT ht, rfl, ?_⟩
        simp only [tSeq, tIfS, tOp, tVar, tC, tCB, tCons, tNil, rI0, rI, tTest, tRet, tRetN, tNext, tAsg, gName, gNil, gCons, gTup, gUnl, tLst, tTup, tCall, tMeth, tMake, tUn, rU, tAndV, tOrV, tNotV, tAnd, tOr, tNot, tIf, tB, tFld, tDrop, tPar, tNever, tBM, rAppend, tSl, tPart, tNoPart, tM1, tyLst, List.getElem?_cons_zero, List.getElem?_cons_succ, Option.some.injEq, exists_eq_left', exists_eq_left, V.int.injEq, V.bl.injEq, V.str.injEq, V.ref.injEq, List.set_cons_zero, List.set_cons_succ, exists_and_left, exists_and_right, and_assoc, List.cons.injEq, and_true, true_and, List.cons_append, List.nil_append, List.append_nil, List.length_cons, List.length_nil, exists_eq', exists_eq, exists_const, exists_eq_right, exists_eq_right', cxK, Cx.nox, Cx.wish]
        refine ⟨_, DGet.k (k := Sum.inr e.1) f2, ?_⟩
        have fin : ∀ (H4 : Hp) (z : Addr), Ext H3 H4 → Paired (Ent (PartR a.C_Part H4)) (putK kvs (Sum.inr e.1) (V.ref z)) (addR (sums (es.take i)) e.1 e.2) →
            Ext H (upd H4 d (.dK (putK kvs (Sum.inr e.1) (V.ref z)))) ∧ SqT K (upd H4 d (.dK (putK kvs (Sum.inr e.1) (V.ref z)))) r (ts.map V.ref) ∧ Paired (RowP a.C_Part (upd H4 d (.dK (putK kvs (Sum.inr e.1) (V.ref z))))) ts es ∧
              ∃ kvs', upd H4 d (.dK (putK kvs (Sum.inr e.1) (V.ref z))) d = some (.dK kvs') ∧ Paired (Ent (PartR a.C_Part (upd H4 d (.dK (putK kvs (Sum.inr e.1) (V.ref z)))))) kvs' (sums (es.take (i + 1))) := fun H4 z e34 hP4 => by
          have f4 := e34 _ _ f2
          have oD : Off d H4 (upd H4 d (.dK (putK kvs (Sum.inr e.1) (V.ref z)))) := Off.upd
          have eH : Ext H (upd H4 d (.dK (putK kvs (Sum.inr e.1) (V.ref z)))) := upd_ext (e2.trans e34) hd
          refine ⟨eH, SqT.ext hr0 eH, rowP_ext hR eH, _, upd_same, ?_⟩
          rw [take_snoc hei, sums_snoc]
          exact ent_mono hP4 fun _ _ y => y.off f4 oD
        by_cases hn : e.1 ∈ (sums (es.take i)).map (·.1)
        · obtain ⟨x, hx, hx1⟩ := List.mem_map.mp hn
          obtain ⟨q0, hv, hq0⟩ := ent_get hP sums_nd hx
          rw [hx1] at hv
          rw [hv]
          refine iteT ⟨_, hv ▸ DGet.k (k := Sum.inr e.1) f2, ?_⟩
          obtain ⟨dq0, hq00⟩ := hq0
          refine ⟨q0, rfl, _, _, hq00, fsP_no _ _ (by decide +kernel) (by decide +kernel), ?_⟩
          refine plus_r (x := x.2) ⟨dq0, hq00⟩ hq (hst i x hx) (hb9 e (List.mem_of_getElem? hei)) fun z H4 e4 _ hz => ?_
          refine ⟨_, DPut.k (k := Sum.inr e.1) (e4 _ _ f2) hkz, ?_⟩
          exact fin H4 z e4 (ent_put_old (ent_mono hP fun _ _ y => y.ext e4) sums_nd (by rw [← hx1]; exact hx) hz)
        · rw [val_none (ent_miss hP hn)]
          refine iteF ⟨_, DPut.k (k := Sum.inr e.1) f2 hkz, ?_⟩
          exact fin H3 q (Ext.refl' _) (ent_put_new hP hn hq)
      · rintro σ H2 ⟨v3, v4, kvs, rfl, e2, hr2, hR2, f2, hP⟩
        refine hN _ _ ?_
        clear hN N
        rw [List.take_of_length_le (by rw [List.length_map]; omega)] at hP
        have hkl : kvs.length = (sums es).length := Paired.length hP
        have hsl := sums_len (rs := es)
        simp only [sFld, tSeq, tIfS, tOp, tVar, tC, tCB, tCons, tNil, rI0, rI, tTest, tRet, tRetN, tNext, tAsg, gName, gNil, gCons, gTup, gUnl, tLst, tTup, tCall, tMeth, tMake, tUn, rU, tAndV, tOrV, tNotV, tAnd, tOr, tNot, tIf, tB, tFld, tDrop, tPar, tNever, tBM, rAppend, tSl, tPart, tNoPart, tM1, tyLst, List.getElem?_cons_zero, List.getElem?_cons_succ, Option.some.injEq, exists_eq_left', exists_eq_left, V.int.injEq, V.bl.injEq, V.str.injEq, V.ref.injEq, List.set_cons_zero, List.set_cons_succ, exists_and_left, exists_and_right, and_assoc, List.cons.injEq, and_true, true_and, List.cons_append, List.nil_append, List.append_nil, List.length_cons, List.length_nil, exists_eq', exists_eq, exists_const, exists_eq_right, exists_eq_right', cxK, Cx.nox, Cx.wish]
        refine dc_sorted (ks := (sums es).map (·.1)) rfl f2 (ent_keys hP) (by rw [List.length_map]; omega) fun ys s0 D H3 hy hsrt e3 f3 hD => ?_
        have f2' : H3 d = some (.dK kvs) := e3 _ _ f2
        have eD : ∀ u, Ext H3 (upd H3 D u) := fun u => Ext.upd hD
        have hP3 := ent_mono (R' := PartR a.C_Part H3) hP fun _ _ y => y.ext e3
        have ndy : ys.Nodup := hy.nodup_iff.mpr sums_nd
        have hyl : ys.length = (sums es).length := by rw [hy.length_eq, List.length_map]
        refine ⟨PvG a.C_Part H3 D (sums es) ys, ⟨[], [], rfl, Nat.le_refl _, .nil, rfl⟩, ?_, ?_, ?_⟩
        · rintro i H' ⟨_, _, rfl, _⟩
          exact eD _ _ _ f3
        · rintro i y H' hy2 ⟨kvs2, hs2, rfl, hk2, hP4, hs⟩
          have hil : i < ys.length := (List.getElem?_eq_some_iff.mp hy2).1
          obtain ⟨e, he, rfl⟩ := List.mem_map.mp (hy.mem_iff.mp (List.mem_of_getElem? hy2))
          obtain ⟨q, hv, dq, hq⟩ := ent_get hP3 sums_nd he
          refine ⟨rfl, ?_⟩
          have ew : (wipe [some (V.ref p), some (V.ref r), some (V.ref d), v3, v4] (List.map (fun x => x.snd) [(Str.ofString "coin", 3)])) = [some (V.ref p), some (V.ref r), some (V.ref d), none, v4] := rfl
          have fd : upd H3 D (.dK kvs2) d = some (.dK kvs) := eD _ _ _ f2'
          have hq2 : ∀ u, upd H3 D u q = some (.ins a.C_Part dq (fsP e.2.num e.2.den)) := fun u => eD _ _ _ hq
          simp only [ew, tDGet, rNe, tSeq, tIfS, tOp, tVar, tC, tCB, tCons, tNil, rI0, rI, tTest, tRet, tRetN, tNext, tAsg, gName, gNil, gCons, gTup, gUnl, tLst, tTup, tCall, tMeth, tMake, tUn, rU, tAndV, tOrV, tNotV, tAnd, tOr, tNot, tIf, tB, tFld, tDrop, tPar, tNever, tBM, rAppend, tSl, tPart, tNoPart, tM1, tyLst, List.getElem?_cons_zero, List.getElem?_cons_succ, Option.some.injEq, exists_eq_left', exists_eq_left, V.int.injEq, V.bl.injEq, V.str.injEq, V.ref.injEq, List.set_cons_zero, List.set_cons_succ, exists_and_left, exists_and_right, and_assoc, List.cons.injEq, and_true, true_and, List.cons_append, List.nil_append, List.append_nil, List.length_cons, List.length_nil, exists_eq', exists_eq, exists_const, exists_eq_right, exists_eq_right', cxK, Cx.nox, Cx.wish]
          have hve := val_mem (n := e.1) sums_nd he
          refine ⟨V.ref q, hv ▸ DGet.k (k := Sum.inr e.1) fd, q, rfl, _, _, hq2 _, fsP_no _ _ (m := "sign") (by decide +kernel) (by decide +kernel), q, _, _, rfl, ⟨dq, hq2 _⟩, rfl, ite2 (fun hb => ?_) (fun hb => ?_)⟩
          · have hne : ¬ e.2 = 0 := fun z => by
              rw [z] at hb
              revert hb
              decide +kernel
            have hm : ∀ kv ∈ kvs2, ¬ kv.1 = Sum.inr e.1 := ent_miss hP4 fun z => by
              rw [hs] at z
              have hu1 := pick_name z
              have nd2 := ndy
              rw [← List.take_append_drop i ys] at nd2
              refine (List.nodup_append.mp nd2).2.2 e.1 hu1 e.1 ?_ rfl
              rw [List.mem_iff_getElem?]
              exact ⟨0, by rw [List.getElem?_drop]; simpa using hy2⟩
            refine ⟨V.ref q, hv ▸ DGet.k (k := Sum.inr e.1) fd, kvs2, Sum.inr e.1, rfl, upd_same, by omega, ?_⟩
            rw [upd_upd, put_new hm]
            refine ⟨_, hs2 ++ [e], rfl, by rw [List.length_append]; exact Nat.succ_le_succ hk2, Paired.snoc hP4 ⟨q, rfl, dq, hq⟩, ?_⟩
            rw [take_snoc hy2, List.filterMap_append, ← hs, List.filterMap_cons]
            unfold pick
            rw [hve, if_neg hne]
            rfl
          · have hz : e.2 = 0 := by
              have hs0 : sgn e.2.num = 0 := by
                cases hd : decide (V.int (sgn e.2.num) = V.int 0) with
                | true => exact V.int.inj (of_decide_eq_true hd)
                | false => exact absurd (by rw [hd]; rfl) hb
              have hn0 : e.2.num = 0 := by
                unfold sgn at hs0
                split at hs0
                · assumption
                · split at hs0
                  · cases hs0
                  · cases hs0
              rw [← Rat.num_divInt_den e.2, hn0, Rat.zero_divInt]
            refine ⟨kvs2, hs2, rfl, by omega, hP4, ?_⟩
            rw [take_snoc hy2, List.filterMap_append, ← hs, List.filterMap_cons]
            unfold pick
            rw [hve, if_pos hz]
            exact (List.append_nil _).symm
        · rintro H' ⟨kvs2, hs2, rfl, hk2, hP4, hs⟩
          rw [List.take_length] at hs
          have hp2 : upd H3 D (.dK kvs2) p = some (.ins a.C_Purse dx []) := eD _ _ _ (e3 _ _ (e2 _ _ hp))
          refine ⟨_, _, _, hp2, T.cl_Purse, T.na_Purse__held, (by show 0 < 1000; decide), ?_⟩
          have hDp : D ≠ p := fun z => by
            rw [z, e3 _ _ (e2 _ _ hp)] at hD
            cases hD
          have hcan : Canon hs2 := hs ▸ pick_canon hsrt ndy
          have hval : ∀ n, val hs2 n = val es n := fun n => by
            rw [hs, pick_val ndy (fun m hm => hy.mem_iff.mpr (Classical.byContradiction fun z => hm (val_miss z))), sums_val]
          refine k _ hs2 D hcan hval (fun b o hb hne => ?_) (none_back (e2.trans e3) hD) ⟨dx, kvs2, upd_same, by rw [upd_ne hDp]; exact upd_same, ent_mono hP4 fun q x y => ?_⟩
          · rw [upd_ne hne]
            exact eD _ _ _ (e3 _ _ (e2 _ _ hb))
          · obtain ⟨dq, z2⟩ := y
            refine ⟨dq, ?_⟩
            rw [upd_ne (fun y => by
              have := eD (.dK kvs2) _ _ z2
              rw [y, hp2] at this
              have := HO.ins.inj (Option.some.inj this)
              cases this.2.2)]
            exact eD _ _ _ z2


end
end My

set_option Elab.async false
set_option maxRecDepth 100000
set_option maxHeartbeats 4000000
set_option linter.all false
namespace My
open PySem L2 Own
section
variable {P : Program} {w : World} {K : PySem.W.Frag} {mg : Str → Option Value} {base : Heap} {a : Adr}
/-! ### Purse.at, Purse.coins -/
def spAt (C CP : Addr) : Sp := fun vs H Q _ => ∃ (p d : Addr) (n : Str) (hs : List (Str × Rat)), vs = [.ref p, .str n] ∧ PurD C CP H p d hs ∧ (hs.map (·.1)).Nodup ∧ ∀ q H', Ext H H' → PartR CP H' q (val hs n) → Q (.ref q) H'
theorem ok_Purse_at (T : Tx a K mg w) : FnOk P w K mg base CX0 3 a.f_Purse_at a.d_Purse_at ps_Purse_at (spAt a.C_Purse a.C_Part) := by
  refine T.F_Purse_at.ok sc_Purse_at (fun vs H Q E h => ?_) (fun cdv A outer s H vs Q E hr h => ?_)
  · obtain ⟨p, d, n, hs, rfl, _⟩ := h
    rfl
  · obtain ⟨p, d, n, hs, rfl, ⟨dx, kvs, hp, hd, hP⟩, nd, k⟩ := h
    have hu := hu_of hr
    have G_Part_init := ok_Part_init (P := P) (w := w) (base := base) T
    obtain ⟨_, D_Part_init_1, B_Part_init_1⟩ := bnd_Part_init_1 T
    obtain ⟨_, D_Part_init_2, B_Part_init_2⟩ := bnd_Part_init_2 T
    have hr_Part_init : Room 1 _ := hr.mono (by decide)
    have hr1_Part_init : Room 2 _ := hr.mono (by decide)
    refine ⟨_, (pss_one (ps_ret (pe_ifExp (pt_cmp (pc_din hu (pv 1) (pe_fld (pv 0) rfl))) (pe_dget hu (pe_fld (pv 0) rfl) (pv 1) (fun _ _ => rfl)) (pe_make T.mk_Part G_Part_init hr1_Part_init (by rfl) T.mg_Part B_Part_init_1 D_Part_init_1 pass0 (pa_cons pe_int pa_nil))))), ?_⟩
    show tRet _ _ [some (V.ref p), some (V.str n)] H
    simp only [tDIn, tDGet, tSeq, tIfS, tOp, tVar, tC, tCB, tCons, tNil, rI0, rI, tTest, tRet, tRetN, tNext, tAsg, gName, gNil, gCons, gTup, gUnl, tLst, tTup, tCall, tMeth, tMake, tUn, rU, tAndV, tOrV, tNotV, tAnd, tOr, tNot, tIf, tB, tFld, tDrop, tPar, tNever, tBM, rAppend, tSl, tPart, tNoPart, tM1, tyLst, List.getElem?_cons_zero, List.getElem?_cons_succ, Option.some.injEq, exists_eq_left', exists_eq_left, V.int.injEq, V.bl.injEq, V.str.injEq, V.ref.injEq, List.set_cons_zero, List.set_cons_succ, exists_and_left, exists_and_right, and_assoc, List.cons.injEq, and_true, true_and, List.cons_append, List.nil_append, List.append_nil, List.length_cons, List.length_nil, exists_eq', exists_eq, exists_const, exists_eq_right, exists_eq_right', cxK, Cx.nox, Cx.wish]
    have hf := held_yes (v := V.ref d)
    refine ⟨_, _, _, hp, T.cl_Purse, T.na_Purse__held, _, hf, d, rfl, _, DGet.k (k := Sum.inr n) hd, ?_⟩
    by_cases hn : n ∈ hs.map (·.1)
    · obtain ⟨e, he, rfl⟩ := List.mem_map.mp hn
      obtain ⟨q, hv, hq⟩ := ent_get hP nd he
      rw [hv]
      refine iteT ⟨_, _, _, hp, T.cl_Purse, T.na_Purse__held, _, hf, d, rfl, _, hv ▸ DGet.k (k := Sum.inr e.1) hd, ?_⟩
      refine k q H (Ext.refl' _) ?_
      rw [val_mem (n := e.1) nd he]
      exact hq
    · rw [val_none (ent_miss hP hn)]
      refine iteF fun x dx2 hx hdx _ => ?_
      refine mk_partR (t := 0) (l := 1) hx hdx (by decide) (by decide) (Nat.lt_of_lt_of_le (show (1 : Int).natAbs < 2 ^ 1 by decide) (Nat.pow_le_pow_right (by decide) (by decide))) fun H1 e1 P1 => ⟨rfl, k x H1 e1 ?_⟩
      rw [val_miss hn]
      rw [show Rat.divInt 0 1 = 0 by decide +kernel] at P1
      exact P1
def spCoins (C CP : Addr) : Sp := fun vs H Q _ => ∃ (p d : Addr) (hs : List (Str × Rat)), vs = [.ref p] ∧ PurD C CP H p d hs ∧ ∀ q H', Ext H H' → H q = none → H' q = some (.lst ((hs.map (·.1)).map V.str)) → Q (.ref q) H'
theorem ok_Purse_coins (T : Tx a K mg w) : FnOk P w K mg base CX0 1 a.f_Purse_coins a.d_Purse_coins ps_Purse_coins (spCoins a.C_Purse a.C_Part) := by
  refine T.F_Purse_coins.ok sc_Purse_coins (fun vs H Q E h => ?_) (fun cdv A outer s H vs Q E hr h => ?_)
  · obtain ⟨p, d, hs, rfl, _⟩ := h
    rfl
  · obtain ⟨p, d, hs, rfl, ⟨dx, kvs, hp, hd, hP⟩, k⟩ := h
    refine ⟨_, (pss_one (ps_ret (pe_callTy (call_listD rfl) (by rfl) T.no_list (by decide +kernel) (pa_cons (pe_fld (pv 0) rfl) pa_nil)))), ?_⟩
    show tRet _ _ [some (V.ref p)] H
    simp only [tSeq, tIfS, tOp, tVar, tC, tCB, tCons, tNil, rI0, rI, tTest, tRet, tRetN, tNext, tAsg, gName, gNil, gCons, gTup, gUnl, tLst, tTup, tCall, tMeth, tMake, tUn, rU, tAndV, tOrV, tNotV, tAnd, tOr, tNot, tIf, tB, tFld, tDrop, tPar, tNever, tBM, rAppend, tSl, tPart, tNoPart, tM1, tyLst, List.getElem?_cons_zero, List.getElem?_cons_succ, Option.some.injEq, exists_eq_left', exists_eq_left, V.int.injEq, V.bl.injEq, V.str.injEq, V.ref.injEq, List.set_cons_zero, List.set_cons_succ, exists_and_left, exists_and_right, and_assoc, List.cons.injEq, and_true, true_and, List.cons_append, List.nil_append, List.append_nil, List.length_cons, List.length_nil, exists_eq', exists_eq, exists_const, exists_eq_right, exists_eq_right', cxK, Cx.nox, Cx.wish]
    refine ⟨_, _, _, hp, T.cl_Purse, T.na_Purse__held, _, held_yes, d, rfl, kvs, .inl hd, fun q hq => ?_⟩
    refine k q _ (Ext.upd hq) hq ?_
    have e := congrArg (List.map kV) (ent_keys hP)
    rw [List.map_map, List.map_map] at e
    rw [upd_same]
    show some (HO.lst (kvs.map (kV ∘ fun x => x.1))) = _
    rw [e]
    rfl

/-! ### _law_add -/
/-- a dict of names and tuples -/
def BagG (H : Hp) (d : Addr) (es : List (Str × Rat)) : Prop := ∃ kvs : List (Key × V), H d = some (.dK kvs) ∧ Paired (Ent (TupR H)) kvs es
theorem BagG.ext {H H' : Hp} {d : Addr} {es : List (Str × Rat)} (h : BagG H d es) (e : Ext H H') : BagG H' d es := by
  obtain ⟨kvs, h1, h2⟩ := h
  exact ⟨kvs, e _ _ h1, ent_mono h2 fun _ _ z => z.ext e⟩
theorem BagG.off {H H' : Hp} {d c : Addr} {es : List (Str × Rat)} {ks : List (Key × V)} (h : BagG H d es) (hd : d ≠ c) (hc : H c = some (.dK ks)) (e : Off c H H') : BagG H' d es := by
  obtain ⟨kvs, h1, h2⟩ := h
  exact ⟨kvs, e _ _ h1 hd, ent_mono h2 fun _ _ z => z.off hc e⟩
def spAddG : Sp := fun vs H Q _ => ∃ (d : Addr) (n : Str) (t l : Int) (es : List (Str × Rat)), vs = [.ref d, .str n, .int t, .int l] ∧ BagG H d es ∧ es.length ≤ 100 ∧ (es.map (·.1)).Nodup ∧ l ≠ 0 ∧ t.natAbs < 2 ^ 1000 ∧ l.natAbs < 2 ^ 1000 ∧ (∀ e ∈ es, Sz e.2 1000) ∧
  ∀ H', Off d H H' → BagG H' d (addR es n (Rat.divInt t l)) → Q .non H'
theorem ok_l_add (T : Tx a K mg w) : FnOk P w K mg base CX0 3 a.f_l_add a.d_l_add ps_l_add spAddG := by
  refine T.F_l_add.ok sc_l_add (fun vs H Q E h => ?_) (fun cdv A outer s H vs Q E hr h => ?_)
  · obtain ⟨d, n, t, l, es, rfl, _⟩ := h
    rfl
  · obtain ⟨d, n, t, l, es, rfl, ⟨kvs, hd, hP⟩, hln, nd, hl, bt, bl, hsz, q⟩ := h
    have hu := hu_of hr
    have G_l_plus := ok_l_plus (P := P) (w := w) (base := base) T
    have B_l_plus := bnd_l_plus T
    have hr_l_plus : Room 2 _ := hr.mono (by decide)
    refine ⟨_, (pss_cons (ps_set (i := 4) sc_l_add.nd rfl (by first | exact Or.inl rfl | exact Or.inr rfl) (pe_ifExp (pt_cmp (pc_din hu (pv 1) (pv 0))) (pe_dget hu (pv 0) (pv 1) (fun _ _ => rfl)) (pe_tup (pa_cons pe_int (pa_cons pe_int pa_nil)))))
      (pss_one (ps_dput hu (pv 0) (pv 1) (pe_call G_l_plus hr_l_plus (by rfl) T.mg_l_plus T.F_l_plus.kp B_l_plus .nil pass0 (pa_cons (pv 4) (pa_cons (pe_tup (pa_cons (pv 2) (pa_cons (pv 3) pa_nil))) pa_nil))) rfl))), ?_⟩
    show tSeq _ _ _ [some (V.ref d), some (V.str n), some (V.int t), some (V.int l), none] H
    have hkl : kvs.length = es.length := Paired.length hP
    have hz16 : sizeLine = 16777216 := rfl
    refine seq_i fun N hN => ?_
    have fin : ∀ (H0 : Hp) (t0 : Addr) (t1 l1 : Int), Ext H H0 → H0 t0 = some (.tup [.int t1, .int l1]) → l1 ≠ 0 → t1.natAbs < 2 ^ 1000 → l1.natAbs < 2 ^ 1000 →
        (∀ r H', Ext H0 H' → TupR H' r (Rat.divInt t1 l1 + Rat.divInt t l) → Paired (Ent (TupR H')) (putK kvs (Sum.inr n) (V.ref r)) (addR es n (Rat.divInt t l))) →
        N [some (V.ref d), some (V.str n), some (V.int t), some (V.int l), some (V.ref t0)] H0 := fun H0 t0 t1 l1 e0 f0 hl1 bt1 bl1 hput => by
      refine hN _ _ ?_
      simp only [sDPut, tSeq, tIfS, tOp, tVar, tC, tCB, tCons, tNil, rI0, rI, tTest, tRet, tRetN, tNext, tAsg, gName, gNil, gCons, gTup, gUnl, tLst, tTup, tCall, tMeth, tMake, tUn, rU, tAndV, tOrV, tNotV, tAnd, tOr, tNot, tIf, tB, tFld, tDrop, tPar, tNever, tBM, rAppend, tSl, tPart, tNoPart, tM1, tyLst, List.getElem?_cons_zero, List.getElem?_cons_succ, Option.some.injEq, exists_eq_left', exists_eq_left, V.int.injEq, V.bl.injEq, V.str.injEq, V.ref.injEq, List.set_cons_zero, List.set_cons_succ, exists_and_left, exists_and_right, and_assoc, List.cons.injEq, and_true, true_and, List.cons_append, List.nil_append, List.append_nil, List.length_cons, List.length_nil, exists_eq', exists_eq, exists_const, exists_eq_right, exists_eq_right', cxK, Cx.nox, Cx.wish]
      refine ⟨by decide, fun q1 hq1 => ?_⟩
      generalize E1 : upd H0 q1 _ = H1
      obtain ⟨e1, f1⟩ := alloc hq1 E1
      refine ⟨t0, q1, t1, l1, t, l, rfl, e1 _ _ f0, f1, hl1, hl, bt1, bl1, bt, bl, fun r H2 e2 _ hr => ?_⟩
      have hd2 := e2 _ _ (e1 _ _ (e0 _ _ hd))
      have o2 : Off d H2 (upd H2 d (.dK (putK kvs (Sum.inr n) (V.ref r)))) := Off.upd
      refine ⟨_, DPut.k (k := Sum.inr n) hd2 (by omega), ?_⟩
      exact q _ (Ext.off (e0.trans (e1.trans e2)) o2) ⟨_, upd_same, ent_mono (hput r H2 (e1.trans e2) hr) fun _ _ z => z.off hd2 o2⟩
    simp only [tDIn, tDGet, tSeq, tIfS, tOp, tVar, tC, tCB, tCons, tNil, rI0, rI, tTest, tRet, tRetN, tNext, tAsg, gName, gNil, gCons, gTup, gUnl, tLst, tTup, tCall, tMeth, tMake, tUn, rU, tAndV, tOrV, tNotV, tAnd, tOr, tNot, tIf, tB, tFld, tDrop, tPar, tNever, tBM, rAppend, tSl, tPart, tNoPart, tM1, tyLst, List.getElem?_cons_zero, List.getElem?_cons_succ, Option.some.injEq, exists_eq_left', exists_eq_left, V.int.injEq, V.bl.injEq, V.str.injEq, V.ref.injEq, List.set_cons_zero, List.set_cons_succ, exists_and_left, exists_and_right, and_assoc, List.cons.injEq, and_true, true_and, List.cons_append, List.nil_append, List.append_nil, List.length_cons, List.length_nil, exists_eq', exists_eq, exists_const, exists_eq_right, exists_eq_right', cxK, Cx.nox, Cx.wish]
    refine ⟨_, DGet.k (k := Sum.inr n) hd, ?_⟩
    by_cases hn : n ∈ es.map (·.1)
    · obtain ⟨e, he, rfl⟩ := List.mem_map.mp hn
      obtain ⟨t0, hv, ht0⟩ := ent_get hP nd he
      rw [hv]
      refine iteT ⟨_, hv ▸ DGet.k (k := Sum.inr e.1) hd, ?_⟩
      have sz := hsz e he
      refine fin H t0 e.2.num e.2.den (Ext.refl' _) ht0 (den_ne _) sz.n sz.d fun r H' e1 hr => ?_
      rw [Rat.num_divInt_den] at hr
      exact ent_put_old (ent_mono hP fun _ _ z => z.ext e1) nd he hr
    · rw [val_none (ent_miss hP hn)]
      refine iteF ⟨by decide, fun q0 hq0 => ?_⟩
      generalize E0 : upd H q0 _ = H0
      obtain ⟨e0, f0⟩ := alloc hq0 E0
      refine fin H0 q0 0 1 e0 f0 (by decide) (Nat.two_pow_pos _) (Nat.lt_of_lt_of_le (show (1 : Int).natAbs < 2 ^ 1 by decide) (Nat.pow_le_pow_right (by decide) (by decide))) fun r H' e1 hr => ?_
      rw [show Rat.divInt 0 1 = 0 by decide +kernel, Rat.zero_add] at hr
      exact ent_put_new (ent_mono hP fun _ _ z => z.ext (e0.trans e1)) hn hr

/-! ### _law_whole, _law_same -/
def spWhole : Sp := fun vs H Q _ => ∃ i : Int, vs = [.int i] ∧ Q (.bl true) H
theorem ok_l_whole (T : Tx a K mg w) : FnOk P w K mg base CX0 1 a.f_l_whole a.d_l_whole ps_l_whole spWhole := by
  refine T.F_l_whole.ok sc_l_whole (fun vs H Q E h => ?_) (fun cdv A outer s H vs Q E hr h => ?_)
  · obtain ⟨i, rfl, _⟩ := h
    rfl
  · obtain ⟨i, rfl, q⟩ := h
    refine ⟨_, (pss_one (ps_ret (pe_and (pe_callB call_isi (by rfl) T.no_isinstance (by decide +kernel) (pa_cons (pv 0) (pa_cons (pe_bltn (v := V.ty "int") (by rfl) T.no_int (by decide +kernel) rfl) pa_nil))) (pe_one (pe_not (pe_callB call_isi (by rfl) T.no_isinstance (by decide +kernel) (pa_cons (pv 0) (pa_cons (pe_bltn (v := V.ty "bool") (by rfl) T.no_bool (by decide +kernel) rfl) pa_nil)))))))), ?_⟩
    show tRet _ _ [some (V.int i)] H
    simp only [rIsi, tSeq, tIfS, tOp, tVar, tC, tCB, tCons, tNil, rI0, rI, tTest, tRet, tRetN, tNext, tAsg, gName, gNil, gCons, gTup, gUnl, tLst, tTup, tCall, tMeth, tMake, tUn, rU, tAndV, tOrV, tNotV, tAnd, tOr, tNot, tIf, tB, tFld, tDrop, tPar, tNever, tBM, rAppend, tSl, tPart, tNoPart, tM1, tyLst, List.getElem?_cons_zero, List.getElem?_cons_succ, Option.some.injEq, exists_eq_left', exists_eq_left, V.int.injEq, V.bl.injEq, V.str.injEq, V.ref.injEq, List.set_cons_zero, List.set_cons_succ, exists_and_left, exists_and_right, and_assoc, List.cons.injEq, and_true, true_and, List.cons_append, List.nil_append, List.append_nil, List.length_cons, List.length_nil, exists_eq', exists_eq, exists_const, exists_eq_right, exists_eq_right', cxK, Cx.nox, Cx.wish]
    refine ⟨_, _, .ty "int", .base (.int i), true, L2.kit_ty (by decide +kernel), iteT ?_⟩
    exact ⟨_, _, .ty "bool", .base (.int i), false, L2.kit_ty (by decide +kernel), q⟩

end
end My

set_option Elab.async false
set_option maxRecDepth 100000
set_option maxHeartbeats 4000000
set_option linter.all false
namespace My
open PySem L2 Own
section
variable {P : Program} {w : World} {K : PySem.W.Frag} {mg : Str → Option Value} {base : Heap} {a : Adr}
/-! ### _law_told, _law_due -/
def spTold (C CP : Addr) : Sp := fun vs H Q _ => ∃ (p d : Addr) (hs : List (Str × Rat)), vs = [.ref p] ∧ PurD C CP H p d hs ∧ (hs.map (·.1)).Nodup ∧ hs.length ≤ 100 ∧ ∀ q H', Ext H H' → H q = none → Rows3 H' q hs → Q (.ref q) H'
theorem ok_l_told (T : Tx a K mg w) : FnOk P w K mg base CX0 4 a.f_l_told a.d_l_told ps_l_told (spTold a.C_Purse a.C_Part) := by
  refine T.F_l_told.ok sc_l_told (fun vs H Q E h => ?_) (fun cdv A outer s H vs Q E hr h => ?_)
  · obtain ⟨p, d, hs, rfl, _⟩ := h
    rfl
  · obtain ⟨p, d, hs, rfl, hPD, nd, hln, k⟩ := h
    have G_Purse_coins := ok_Purse_coins (P := P) (w := w) (base := base) T
    have B_Purse_coins := bnd_Purse_coins T
    have hr_Purse_coins : Room 1 _ := hr.mono (by decide)
    have G_Purse_at := ok_Purse_at (P := P) (w := w) (base := base) T
    have B_Purse_at := bnd_Purse_at T
    have hr_Purse_at : Room 3 _ := hr.mono (by decide)
    have G_l_whole := ok_l_whole (P := P) (w := w) (base := base) T
    have B_l_whole := bnd_l_whole T
    have hr_l_whole : Room 1 _ := hr.mono (by decide)
    refine ⟨_, (pss_cons (ps_if (PW.pt (pw_or (pt_not (pt_val (pe_callB call_isi (by rfl) T.no_isinstance (by decide +kernel) (pa_cons (pv 0) (pa_cons (pe_glob (v := V.ref a.C_Purse) rfl T.mg_Purse rfl) pa_nil))))) (pw_or1 (pt_not (pt_val (pe_callB call_isi (by rfl) T.no_isinstance (by decide +kernel) (pa_cons (pe_meth0 (pv 0) T.cl_Purse T.m_Purse_coins G_Purse_coins hr_Purse_coins B_Purse_coins .nil pass0) (pa_cons (pe_bltn (v := V.ty "list") (by rfl) T.no_list (by decide +kernel) rfl) pa_nil)))))))) (pss_one (ps_ret pe_non)) pss_nil)
      (pss_cons (ps_set (i := 1) sc_l_told.nd rfl (by first | exact Or.inl rfl | exact Or.inr rfl) (pe_lst pa_nil))
      (pss_cons (ps_for PassesOwn.never rfl (pi_list (pe_meth0 (pv 0) T.cl_Purse T.m_Purse_coins G_Purse_coins hr_Purse_coins B_Purse_coins .nil pass0)) (pg_name (i := 2) sc_l_told.nd rfl (by first | exact Or.inl rfl | exact Or.inr rfl))
        (pss_cons (ps_set (i := 3) sc_l_told.nd rfl (by first | exact Or.inl rfl | exact Or.inr rfl) (pe_meth (pv 0) T.cl_Purse T.m_Purse_at G_Purse_at hr_Purse_at B_Purse_at .nil pass0 (pa_cons (pv 2) pa_nil)))
        (pss_cons (ps_if (PW.pt (pw_or (pt_not (pt_val (pe_callB call_isi (by rfl) T.no_isinstance (by decide +kernel) (pa_cons (pv 2) (pa_cons (pe_bltn (v := V.ty "str") (by rfl) T.no_str (by decide +kernel) rfl) pa_nil))))) (pw_or1 (pt_not (pt_val (pe_callB call_isi (by rfl) T.no_isinstance (by decide +kernel) (pa_cons (pv 3) (pa_cons (pe_glob (v := V.ref a.C_Part) rfl T.mg_Part rfl) pa_nil)))))))) (pss_one (ps_ret pe_non)) pss_nil)
        (pss_one (ps_expr (pe_bm PySem.F.plainAttrs_list PySem.F.slot_list_append PySem.F.type_list_append mt_append (pv 1) (pa_cons (pe_tup (pa_cons (pv 2) (pa_cons (pe_fld (pv 3) rfl) (pa_cons (pe_fld (pv 3) rfl) pa_nil)))) pa_nil)))))))
      (pss_one (ps_ret (pe_ifExp (pt_val (pe_callB (cr_all rfl) (by rfl) T.no_all (by decide +kernel) (pa_cons (pe_lc (own := [("_law_row", 4)]) rfl sc_l_told.nd (pi_list (pv 1)) (blkOk_by (own := [("_law_row", 4)]) (N := N_l_told) (sc := defScope s_l_told) (by decide +kernel)) (fun _ _ _ _ _ => (pg_name (i := 4) sc_l_told.nd rfl (Or.inl rfl))) (fun _ _ _ _ _ => pts_nil) (fun _ _ _ _ _ => (pe_and (pe_call G_l_whole hr_l_whole (by rfl) T.mg_l_whole T.F_l_whole.kp B_l_whole .nil pass0 (pa_cons (pe_ix (ixTK (K := K) rfl) (pv 4) pe_int (fun _ _ => rfl)) pa_nil)) (pe_one (pe_call G_l_whole hr_l_whole (by rfl) T.mg_l_whole T.F_l_whole.kp B_l_whole .nil pass0 (pa_cons (pe_ix (ixTK (K := K) rfl) (pv 4) pe_int (fun _ _ => rfl)) pa_nil)))))) pa_nil))) (pv 1) pe_non)))))), ?_⟩
    show tSeq _ _ _ [some (V.ref p), none, none, none, none] H
    have hz16 : sizeLine = 16777216 := rfl
    refine seq_i fun N hN => ?_
    simp only [tDNewK, tDIn, tDNotIn, tDGet, sDPut, rIxL, rIxT, rEq, rNe, rIsi, sFld, rSlL, rIn, rEqD, tYes, tCallN, tSeq, tIfS, tOp, tVar, tC, tCB, tCons, tNil, rI0, rI, tTest, tRet, tRetN, tNext, tAsg, gName, gNil, gCons, gTup, gUnl, tLst, tTup, tCall, tMeth, tMake, tUn, rU, tAndV, tOrV, tNotV, tAnd, tOr, tNot, tIf, tB, tFld, tDrop, tPar, tNever, tBM, rAppend, tSl, tPart, tNoPart, tM1, tyLst, List.getElem?_cons_zero, List.getElem?_cons_succ, Option.some.injEq, exists_eq_left', exists_eq_left, V.int.injEq, V.bl.injEq, V.str.injEq, V.ref.injEq, List.set_cons_zero, List.set_cons_succ, exists_and_left, exists_and_right, and_assoc, List.cons.injEq, and_true, true_and, List.cons_append, List.nil_append, List.append_nil, List.length_cons, List.length_nil, exists_eq', exists_eq, exists_const, exists_eq_right, exists_eq_right', cxK, Cx.nox, Cx.wish]
    obtain ⟨dx, kvs, hp, hd, hP⟩ := hPD
    refine ⟨_, _, .own a.C_Purse, ty_Purse T hp, true, T.kit_Purse_Purse, iteF ?_⟩
    refine ⟨_, _, hp, held_no (by decide +kernel), p, d, hs, rfl, ⟨dx, kvs, hp, hd, hP⟩, fun q0 H1 e1 _ f1 => ?_⟩
    refine ⟨_, _, .ty "list", .base (.lst f1), true, L2.kit_ty (by decide +kernel), iteF (hN _ _ ?_)⟩
    clear hN N
    have hPD : PurD a.C_Purse a.C_Part H1 p d hs := PurD.ext ⟨dx, kvs, hp, hd, hP⟩ e1
    clear hp hd hP f1
    refine seq_i fun N hN => ?_
    simp only [tDNewK, tDIn, tDNotIn, tDGet, sDPut, rIxL, rIxT, rEq, rNe, rIsi, sFld, rSlL, rIn, rEqD, tYes, tCallN, tSeq, tIfS, tOp, tVar, tC, tCB, tCons, tNil, rI0, rI, tTest, tRet, tRetN, tNext, tAsg, gName, gNil, gCons, gTup, gUnl, tLst, tTup, tCall, tMeth, tMake, tUn, rU, tAndV, tOrV, tNotV, tAnd, tOr, tNot, tIf, tB, tFld, tDrop, tPar, tNever, tBM, rAppend, tSl, tPart, tNoPart, tM1, tyLst, List.getElem?_cons_zero, List.getElem?_cons_succ, Option.some.injEq, exists_eq_left', exists_eq_left, V.int.injEq, V.bl.injEq, V.str.injEq, V.ref.injEq, List.set_cons_zero, List.set_cons_succ, exists_and_left, exists_and_right, and_assoc, List.cons.injEq, and_true, true_and, List.cons_append, List.nil_append, List.append_nil, List.length_cons, List.length_nil, exists_eq', exists_eq, exists_const, exists_eq_right, exists_eq_right', cxK, Cx.nox, Cx.wish]
    refine ⟨by decide, fun pf hpf => ?_⟩
    generalize hH2 : upd H1 pf _ = H2
    obtain ⟨e2, f2⟩ := alloc hpf hH2
    refine hN _ _ ?_
    clear hN N hH2
    have hPD := hPD.ext e2
    have e12 := e1.trans e2
    refine seq_i fun N hN => ?_
    obtain ⟨dx, kvs, hp, hd, hP⟩ := hPD
    refine ⟨_, rfl, p, dx, _, rfl, hp, held_no (by decide +kernel), p, d, hs, rfl, ⟨dx, kvs, hp, hd, hP⟩, fun q1 H3 e3 hq1 f3 => ⟨q1, rfl, ⟨_, ofL f3⟩, ?_⟩⟩
    have hPD : PurD a.C_Purse a.C_Part H3 p d hs := PurD.ext ⟨dx, kvs, hp, hd, hP⟩ e3
    clear hp hd hP
    have hqf : q1 ≠ pf := ne_of_new hq1 f2
    refine for_it (walk_list (K := K) (a := q1) (xs := (hs.map (·.1)).map V.str)) (fun i σ H' => ∃ v2 v3, σ = [some (V.ref p), some (V.ref pf), v2, v3, none] ∧ Ext H1 H' ∧ PurD a.C_Purse a.C_Part H' p d hs ∧ H' q1 = some (.lst ((hs.map (·.1)).map V.str)) ∧ ∃ ts : List Addr, H' pf = some (.lst (ts.map V.ref)) ∧ Paired (Row3 H') ts (hs.take i))
      ⟨_, _, rfl, e2.trans e3, hPD, f3, [], e3 _ _ f2, .nil⟩ (fun i σ H' _ h => by
        obtain ⟨_, _, _, _, _, h, _⟩ := h
        exact ofL h) ?_ ?_
    · rintro i x σ H4 H5 hi ⟨v2, v3, rfl, e4, hPD, f4, ts, g4, hT⟩ ⟨rfl, hx⟩
      rw [List.getElem?_map, List.getElem?_map] at hx
      obtain ⟨e, he, rfl⟩ : ∃ e, hs[i]? = some e ∧ x = V.str e.1 := by
        cases z : hs[i]? with
        | none => rw [z] at hx; cases hx
        | some e => rw [z] at hx; exact ⟨e, rfl, (Option.some.inj hx).symm⟩
      have htl : ts.length = (hs.take i).length := Paired.length hT
      rw [List.length_take] at htl
      show tSeq _ _ _ [some (V.ref p), some (V.ref pf), some (V.str e.1), v3, none] H5
      refine seq_i fun N2 hN2 => ?_
      simp only [tDNewK, tDIn, tDNotIn, tDGet, sDPut, rIxL, rIxT, rEq, rNe, rIsi, sFld, rSlL, rIn, rEqD, tYes, tCallN, tSeq, tIfS, tOp, tVar, tC, tCB, tCons, tNil, rI0, rI, tTest, tRet, tRetN, tNext, tAsg, gName, gNil, gCons, gTup, gUnl, tLst, tTup, tCall, tMeth, tMake, tUn, rU, tAndV, tOrV, tNotV, tAnd, tOr, tNot, tIf, tB, tFld, tDrop, tPar, tNever, tBM, rAppend, tSl, tPart, tNoPart, tM1, tyLst, List.getElem?_cons_zero, List.getElem?_cons_succ, Option.some.injEq, exists_eq_left', exists_eq_left, V.int.injEq, V.bl.injEq, V.str.injEq, V.ref.injEq, List.set_cons_zero, List.set_cons_succ, exists_and_left, exists_and_right, and_assoc, List.cons.injEq, and_true, true_and, List.cons_append, List.nil_append, List.append_nil, List.length_cons, List.length_nil, exists_eq', exists_eq, exists_const, exists_eq_right, exists_eq_right', cxK, Cx.nox, Cx.wish]
      obtain ⟨dx, kvs, hp, hd, hP⟩ := hPD
      refine ⟨_, _, hp, held_no (by decide +kernel), p, d, e.1, hs, rfl, ⟨dx, kvs, hp, hd, hP⟩, nd, fun q2 H6 e6 hq2 => hN2 _ _ ?_⟩
      clear hN2 N2
      rw [val_mem (n := e.1) nd (List.mem_of_getElem? he)] at hq2
      have hPD : PurD a.C_Purse a.C_Part H6 p d hs := PurD.ext ⟨dx, kvs, hp, hd, hP⟩ e6
      have f6 := e6 _ _ f4
      have g6 := e6 _ _ g4
      have hT6 := row3_ext hT e6
      obtain ⟨dq, hq2⟩ := hq2
      refine seq_i fun N2 hN2 => ?_
      simp only [tDNewK, tDIn, tDNotIn, tDGet, sDPut, rIxL, rIxT, rEq, rNe, rIsi, sFld, rSlL, rIn, rEqD, tYes, tCallN, tSeq, tIfS, tOp, tVar, tC, tCB, tCons, tNil, rI0, rI, tTest, tRet, tRetN, tNext, tAsg, gName, gNil, gCons, gTup, gUnl, tLst, tTup, tCall, tMeth, tMake, tUn, rU, tAndV, tOrV, tNotV, tAnd, tOr, tNot, tIf, tB, tFld, tDrop, tPar, tNever, tBM, rAppend, tSl, tPart, tNoPart, tM1, tyLst, List.getElem?_cons_zero, List.getElem?_cons_succ, Option.some.injEq, exists_eq_left', exists_eq_left, V.int.injEq, V.bl.injEq, V.str.injEq, V.ref.injEq, List.set_cons_zero, List.set_cons_succ, exists_and_left, exists_and_right, and_assoc, List.cons.injEq, and_true, true_and, List.cons_append, List.nil_append, List.append_nil, List.length_cons, List.length_nil, exists_eq', exists_eq, exists_const, exists_eq_right, exists_eq_right', cxK, Cx.nox, Cx.wish]
      refine ⟨_, _, .ty "str", .base (.str _), true, L2.kit_ty (by decide +kernel), iteF ?_⟩
      refine ⟨_, _, .own a.C_Part, ty_Part T hq2, true, T.kit_Part_Part, iteF (hN2 _ _ ?_)⟩
      clear hN2 N2
      simp only [tDNewK, tDIn, tDNotIn, tDGet, sDPut, rIxL, rIxT, rEq, rNe, rIsi, sFld, rSlL, rIn, rEqD, tYes, tCallN, tSeq, tIfS, tOp, tVar, tC, tCB, tCons, tNil, rI0, rI, tTest, tRet, tRetN, tNext, tAsg, gName, gNil, gCons, gTup, gUnl, tLst, tTup, tCall, tMeth, tMake, tUn, rU, tAndV, tOrV, tNotV, tAnd, tOr, tNot, tIf, tB, tFld, tDrop, tPar, tNever, tBM, rAppend, tSl, tPart, tNoPart, tM1, tyLst, List.getElem?_cons_zero, List.getElem?_cons_succ, Option.some.injEq, exists_eq_left', exists_eq_left, V.int.injEq, V.bl.injEq, V.str.injEq, V.ref.injEq, List.set_cons_zero, List.set_cons_succ, exists_and_left, exists_and_right, and_assoc, List.cons.injEq, and_true, true_and, List.cons_append, List.nil_append, List.append_nil, List.length_cons, List.length_nil, exists_eq', exists_eq, exists_const, exists_eq_right, exists_eq_right', cxK, Cx.nox, Cx.wish]
      refine ⟨tyLst g6, _, _, _, hq2, T.cl_Part, T.na_Part_top, _, fsP_top _ _, _, _, _, hq2, T.cl_Part, T.na_Part_low, _, fsP_low _ _, by decide, fun pt hpt => ?_⟩
      generalize hE : upd H6 pt _ = H7
      obtain ⟨e7, f7⟩ := alloc hpt hE
      have g7 := e7 _ _ g6
      have o7 : Off pf H7 (upd H7 pf (.lst (ts.map V.ref ++ [V.ref pt]))) := Off.upd
      refine ⟨_, g7, by rw [List.length_map]; omega, upd_ext (e4.trans (e6.trans e7)) hpf, (hPD.ext e7).offL g7 o7, o7 _ _ (e7 _ _ f6) hqf, ts ++ [pt], by rw [upd_same, List.map_append]; rfl, ?_⟩
      rw [take_snoc he]
      exact row3_offL (Paired.snoc (row3_ext hT6 e7) f7) g7 o7
    · rintro σ H4 ⟨v2, v3, rfl, e4, hPD, f4, ts, g4, hT⟩
      refine hN _ _ ?_
      clear hN N
      rw [List.take_of_length_le (by rw [List.length_map, List.length_map]; omega)] at hT
      have htl : ts.length = hs.length := Paired.length hT
      simp only [tDNewK, tDIn, tDNotIn, tDGet, sDPut, rIxL, rIxT, rEq, rNe, rIsi, sFld, rSlL, rIn, rEqD, tYes, tCallN, tSeq, tIfS, tOp, tVar, tC, tCB, tCons, tNil, rI0, rI, tTest, tRet, tRetN, tNext, tAsg, gName, gNil, gCons, gTup, gUnl, tLst, tTup, tCall, tMeth, tMake, tUn, rU, tAndV, tOrV, tNotV, tAnd, tOr, tNot, tIf, tB, tFld, tDrop, tPar, tNever, tBM, rAppend, tSl, tPart, tNoPart, tM1, tyLst, List.getElem?_cons_zero, List.getElem?_cons_succ, Option.some.injEq, exists_eq_left', exists_eq_left, V.int.injEq, V.bl.injEq, V.str.injEq, V.ref.injEq, List.set_cons_zero, List.set_cons_succ, exists_and_left, exists_and_right, and_assoc, List.cons.injEq, and_true, true_and, List.cons_append, List.nil_append, List.append_nil, List.length_cons, List.length_nil, exists_eq', exists_eq, exists_const, exists_eq_right, exists_eq_right', cxK, Cx.nox, Cx.wish]
      refine tLc_i (J := Itl K pf) (fun R r => ⟨_, rfl, pf, rfl, ⟨_, ofL g4⟩, r⟩) (walk_list (K := K) (a := pf) (xs := ts.map V.ref)) fun D hD => ?_
      refine ⟨fun i H' => Ext H4 H' ∧ ∃ bs : List Bool, H' D = some (.lst (bs.map V.bl)) ∧ bs.all id = true ∧ bs.length = i, ⟨Ext.upd hD, [], upd_same, rfl, rfl⟩, fun i H' _ h => ofL (h.1 _ _ g4), ?_, ?_⟩
      · rintro i x H5 H6 hi ⟨e5, bs, fD, hb, hbl⟩ ⟨rfl, hx⟩
        rw [List.length_map] at hi
        obtain ⟨t, hti, rfl⟩ : ∃ t, ts[i]? = some t ∧ x = V.ref t := by
          rw [List.getElem?_map] at hx
          cases e : ts[i]? with
          | none => rw [e] at hx; cases hx
          | some t => rw [e] at hx; exact ⟨t, rfl, (Option.some.inj hx).symm⟩
        obtain ⟨e, he, ht⟩ := LiI.paired_get hT hti
        have ht6 : H6 t = some (.tup [.str e.1, .int e.2.num, .int e.2.den]) := e5 _ _ ht
        refine ⟨rfl, ?_⟩
        have ew : (wipe [some (V.ref p), some (V.ref pf), v2, v3, none] (List.map (fun x => x.snd) [((Str.ofString "_law_row" : Str), 4)])) = [some (V.ref p), some (V.ref pf), v2, v3, none] := rfl
        have a1 : atI [V.str e.1, .int e.2.num, .int e.2.den] 1 = some (.int e.2.num) := Own.atI_nat (j := 1) rfl
        have a2 : atI [V.str e.1, .int e.2.num, .int e.2.den] 2 = some (.int e.2.den) := Own.atI_nat (j := 2) rfl
        simp only [ew, tDNewK, tDIn, tDNotIn, tDGet, sDPut, rIxL, rIxT, rEq, rNe, rIsi, sFld, rSlL, rIn, rEqD, tYes, tCallN, tSeq, tIfS, tOp, tVar, tC, tCB, tCons, tNil, rI0, rI, tTest, tRet, tRetN, tNext, tAsg, gName, gNil, gCons, gTup, gUnl, tLst, tTup, tCall, tMeth, tMake, tUn, rU, tAndV, tOrV, tNotV, tAnd, tOr, tNot, tIf, tB, tFld, tDrop, tPar, tNever, tBM, rAppend, tSl, tPart, tNoPart, tM1, tyLst, List.getElem?_cons_zero, List.getElem?_cons_succ, Option.some.injEq, exists_eq_left', exists_eq_left, V.int.injEq, V.bl.injEq, V.str.injEq, V.ref.injEq, List.set_cons_zero, List.set_cons_succ, exists_and_left, exists_and_right, and_assoc, List.cons.injEq, and_true, true_and, List.cons_append, List.nil_append, List.append_nil, List.length_cons, List.length_nil, exists_eq', exists_eq, exists_const, exists_eq_right, exists_eq_right', cxK, Cx.nox, Cx.wish]
        rw [if_pos trivial]
        refine ⟨_, ofT ht6, _, a1, _, rfl, true, rfl, iteT ⟨_, ofT ht6, _, a2, _, rfl, ?_⟩⟩
        refine ⟨_, fD, by rw [List.length_map]; omega, upd_ext e5 hD, bs ++ [true], by rw [upd_same, List.map_append]; rfl, by rw [List.all_append, hb]; rfl, by rw [List.length_append, hbl]; rfl⟩
      · rintro H5 ⟨e5, bs, fD, hb, _⟩
        refine ⟨D, bs, rfl, ofL fD, true, by rw [hb], iteT ?_⟩
        exact k _ _ (e1.trans (e4.trans e5)) (none_back e1 hpf) ⟨ts, e5 _ _ g4, row3_ext hT e5⟩

def spDue : Sp := fun vs H Q _ => ∃ (d : Addr) (es : List (Str × Rat)), vs = [.ref d] ∧ BagG H d es ∧ (es.map (·.1)).Nodup ∧ es.length < 64 ∧ ∀ q H' cs, Ext H H' → H q = none → Canon cs → (∀ n, val cs n = val es n) → Rows3 H' q cs → Q (.ref q) H'
theorem ok_l_due (T : Tx a K mg w) : FnOk P w K mg base CX0 1 a.f_l_due a.d_l_due ps_l_due spDue := by
  refine T.F_l_due.ok sc_l_due (fun vs H Q E h => ?_) (fun cdv A outer s H vs Q E hr h => ?_)
  · obtain ⟨d, es, rfl, _⟩ := h
    rfl
  · obtain ⟨d, es, rfl, ⟨kvs, hd, hP⟩, nd, hln, k⟩ := h
    have hu := hu_of hr
    refine ⟨_, (pss_one (ps_ret (pe_lc (own := [("_law_coin", 1)]) rfl sc_l_due.nd (pi_list (pe_callB (cr_sortN rfl) (by rfl) T.no_sorted (by decide +kernel) (pa_cons (pv 0) pa_nil))) (blkOk_by (own := [("_law_coin", 1)]) (N := N_l_due) (sc := defScope s_l_due) (by decide +kernel)) (fun _ _ _ _ _ => (pg_name (i := 1) sc_l_due.nd rfl (Or.inl rfl))) (fun _ _ _ _ _ => (pts_one (pt_cmpR op_ne (pe_ix (ixTK (K := K) rfl) (pe_dget hu (pv 0) (pv 1) (fun _ _ => rfl)) pe_int (fun _ _ => rfl)) pe_int (nomark _)))) (fun _ _ _ _ _ => (pe_op (catTK (K := K) rfl) (pe_tup (pa_cons (pv 1) pa_nil)) (pe_dget hu (pv 0) (pv 1) (fun _ _ => rfl))))))), ?_⟩
    show tRet _ _ [some (V.ref d), none] H
    have hz16 : sizeLine = 16777216 := rfl
    refine ⟨_, rfl, d, kvs, es.map (·.1), rfl, .inl hd, ent_keys hP, by rw [List.length_map]; exact hln, fun ys s0 hy hsrt hs0 => ⟨s0, rfl, ⟨_, ofL upd_same⟩, fun D hD => ?_⟩⟩
    generalize hE : upd H s0 _ = H1 at hD ⊢
    obtain ⟨e1, f1⟩ := alloc hs0 hE
    clear hE
    have ndy : ys.Nodup := hy.nodup_iff.mpr nd
    have hyl : ys.length = es.length := by rw [hy.length_eq, List.length_map]
    have hd1 := e1 _ _ hd
    have hP1 := ent_mono (R' := TupR H1) hP fun _ _ z => z.ext e1
    refine lc_it (walk_list (K := K) (a := s0) (xs := ys.map V.str)) (fun i H' => Ext H1 H' ∧ ∃ ts : List Addr, H' D = some (.lst (ts.map V.ref)) ∧ Paired (Row3 H') ts ((ys.take i).filterMap (pick es)) ∧ ts.length ≤ i) ⟨Ext.upd hD, [], upd_same, .nil, Nat.le_refl _⟩ (fun i H' _ h => ofL (h.1 _ _ f1)) ?_ ?_
    · rintro i x H2 H3 hi ⟨e2, ts, fD, hT, htl⟩ ⟨rfl, hx⟩
      rw [List.length_map] at hi
      obtain ⟨y, hyi, rfl⟩ : ∃ y, ys[i]? = some y ∧ x = V.str y := by
        rw [List.getElem?_map] at hx
        cases e : ys[i]? with
        | none => rw [e] at hx; cases hx
        | some y => rw [e] at hx; exact ⟨y, rfl, (Option.some.inj hx).symm⟩
      obtain ⟨e, he, rfl⟩ := List.mem_map.mp (hy.mem_iff.mp (List.mem_of_getElem? hyi))
      obtain ⟨t, hv, ht⟩ := ent_get hP1 nd he
      have ht3 : H3 t = some (.tup [.int e.2.num, .int e.2.den]) := ht.ext e2
      have hd3 := e2 _ _ hd1
      have hve := val_mem (n := e.1) nd he
      refine ⟨rfl, ?_⟩
      have ew : (wipe [some (V.ref d), none] (List.map (fun x => x.snd) [((Str.ofString "_law_coin" : Str), 1)])) = [some (V.ref d), none] := rfl
      simp only [ew, tDNewK, tDIn, tDNotIn, tDGet, sDPut, rIxL, rIxT, rEq, rNe, rIsi, sFld, rSlL, rIn, rEqD, tYes, tCallN, tSeq, tIfS, tOp, tVar, tC, tCB, tCons, tNil, rI0, rI, tTest, tRet, tRetN, tNext, tAsg, gName, gNil, gCons, gTup, gUnl, tLst, tTup, tCall, tMeth, tMake, tUn, rU, tAndV, tOrV, tNotV, tAnd, tOr, tNot, tIf, tB, tFld, tDrop, tPar, tNever, tBM, rAppend, tSl, tPart, tNoPart, tM1, tyLst, List.getElem?_cons_zero, List.getElem?_cons_succ, Option.some.injEq, exists_eq_left', exists_eq_left, V.int.injEq, V.bl.injEq, V.str.injEq, V.ref.injEq, List.set_cons_zero, List.set_cons_succ, exists_and_left, exists_and_right, and_assoc, List.cons.injEq, and_true, true_and, List.cons_append, List.nil_append, List.append_nil, List.length_cons, List.length_nil, exists_eq', exists_eq, exists_const, exists_eq_right, exists_eq_right', cxK, Cx.nox, Cx.wish]
      have g1 : DGet H3 d (.str e.1) (some (V.ref t)) := hv ▸ DGet.k (k := Sum.inr e.1) hd3
      refine ⟨_, g1, t, rfl, _, ofT ht3, _, atI_0, rfl, ite2 (fun hb => ?_) (fun hb => ?_)⟩
      · have hne : ¬ e.2 = 0 := fun z => by
          rw [z] at hb
          revert hb
          decide +kernel
        refine ⟨by decide, fun t1 ht1 => ?_⟩
        generalize hE : upd H3 t1 _ = H4
        obtain ⟨e4, f4⟩ := alloc ht1 hE
        refine ⟨_, .inl ⟨kvs, Sum.inr e.1, .inl (e4 _ _ hd3), rfl, hv.symm⟩, t1, t, _, _, rfl, rfl, ofT f4, ofT (e4 _ _ ht3), List.cons_ne_nil _ _, by show 1 + 2 ≤ sizeLine; decide, (fun z => by cases z), fun _ t2 ht2 => ?_⟩
        generalize hE2 : upd H4 t2 _ = H5
        obtain ⟨e5, f5⟩ := alloc ht2 hE2
        have e35 := e4.trans e5
        have fD5 := e35 _ _ fD
        have o5 : Off D H5 (upd H5 D (.lst (ts.map V.ref ++ [V.ref t2]))) := Off.upd
        refine ⟨_, fD5, by rw [List.length_map]; omega, upd_ext (e2.trans e35) hD, ts ++ [t2], by rw [upd_same, List.map_append]; rfl, ?_, by rw [List.length_append]; exact Nat.succ_le_succ htl⟩
        rw [take_snoc hyi, List.filterMap_append, List.filterMap_cons]
        have hpk : pick es e.1 = some e := by
          unfold pick
          rw [hve, if_neg hne]
        rw [hpk]
        exact row3_offL (Paired.snoc (row3_ext hT e35) f5) fD5 o5
      · have hz : e.2 = 0 := by
          have hn0 : e.2.num = 0 := by
            cases hd : decide (V.int e.2.num = V.int 0) with
            | true => exact V.int.inj (of_decide_eq_true hd)
            | false => exact absurd (by rw [hd]; rfl) hb
          rw [← Rat.num_divInt_den e.2, hn0, Rat.zero_divInt]
        refine ⟨e2, ts, fD, ?_, Nat.le_succ_of_le htl⟩
        rw [take_snoc hyi, List.filterMap_append, List.filterMap_cons]
        have hpk : pick es e.1 = none := by
          unfold pick
          rw [hve, if_pos hz]
        rw [hpk]
        show Paired _ _ (_ ++ [])
        rw [List.append_nil]
        exact hT
    · rintro H2 ⟨e2, ts, fD, hT, _⟩
      rw [List.take_of_length_le (by rw [List.length_map]; exact Nat.le_refl _)] at hT
      exact k _ _ _ (e1.trans e2) (none_back e1 hD) (pick_canon hsrt ndy) (pick_val ndy fun n hn => hy.mem_iff.mpr (Classical.byContradiction fun z => hn (val_miss z))) ⟨ts, fD, hT⟩

end
end My

set_option Elab.async false
set_option maxRecDepth 100000
set_option maxHeartbeats 4000000
set_option linter.all false
namespace My
open PySem L2 Own
section
variable {P : Program} {w : World} {K : PySem.W.Frag} {mg : Str → Option Value} {base : Heap} {a : Adr}
/-! ### Purse: rows, plus -/
def spPRows (C CP : Addr) : Sp := fun vs H Q _ => ∃ (p d : Addr) (hs : List (Str × Rat)), vs = [.ref p] ∧ PurD C CP H p d hs ∧ ∀ q ts H', Ext H H' → H' q = some (.lst (ts.map V.ref)) → Paired (RowP CP H') ts hs → Q (.ref q) H'
theorem ok_Purse_rows (T : Tx a K mg w) : FnOk P w K mg base CX0 1 a.f_Purse_rows a.d_Purse_rows ps_Purse_rows (spPRows a.C_Purse a.C_Part) := by
  refine T.F_Purse_rows.ok sc_Purse_rows (fun vs H Q E h => ?_) (fun cdv A outer s H vs Q E hr h => ?_)
  · obtain ⟨p, d, hs, rfl, _⟩ := h
    rfl
  · obtain ⟨p, d, hs, rfl, ⟨dx, kvs, hp, hd, hP⟩, k⟩ := h
    refine ⟨_, (pss_one (ps_ret (LiI.pe_listItems rfl (pe_fld (pv 0) rfl) (by rfl) T.no_list (by decide +kernel)))), ?_⟩
    show tRet _ _ [some (V.ref p)] H
    simp only [LiI.tListItems, tDNewK, tDIn, tDNotIn, tDGet, sDPut, rIxL, rIxT, rEq, rNe, rIsi, sFld, rSlL, rIn, rEqD, tYes, tCallN, tSeq, tIfS, tOp, tVar, tC, tCB, tCons, tNil, rI0, rI, tTest, tRet, tRetN, tNext, tAsg, gName, gNil, gCons, gTup, gUnl, tLst, tTup, tCall, tMeth, tMake, tUn, rU, tAndV, tOrV, tNotV, tAnd, tOr, tNot, tIf, tB, tFld, tDrop, tPar, tNever, tBM, rAppend, tSl, tPart, tNoPart, tM1, tyLst, List.getElem?_cons_zero, List.getElem?_cons_succ, Option.some.injEq, exists_eq_left', exists_eq_left, V.int.injEq, V.bl.injEq, V.str.injEq, V.ref.injEq, List.set_cons_zero, List.set_cons_succ, exists_and_left, exists_and_right, and_assoc, List.cons.injEq, and_true, true_and, List.cons_append, List.nil_append, List.append_nil, List.length_cons, List.length_nil, exists_eq', exists_eq, exists_const, exists_eq_right, exists_eq_right', cxK, Cx.nox, Cx.wish]
    refine ⟨_, _, _, hp, T.cl_Purse, T.na_Purse__held, _, held_yes, d, _, rfl, hd, fun H' l ts e _ _ _ hl' hts => k l ts H' e hl' ?_⟩
    exact pcomp (fun t kv e2 h1 h2 => by
      obtain ⟨q, hkv, hq⟩ := h2
      have h1 : H' t = some (.tup [kV kv.1, kv.2]) := h1
      rw [hkv] at h1
      exact ⟨q, h1, hq.ext e⟩) hts hP
def spPPlus (C CP : Addr) : Sp := fun vs H Q _ => ∃ (p d q e : Addr) (hs gs : List (Str × Rat)) (b : Nat), vs = [.ref p, .ref q] ∧ PurD C CP H p d hs ∧ PurD C CP H q e gs ∧ (∀ x ∈ hs ++ gs, Sz x.2 b) ∧ 1 + (hs.length + gs.length) * (b + 1) ≤ 1000 ∧ hs.length + gs.length < 64 ∧
  ∀ r dr rs H', Ext H H' → H dr = none → Canon rs → (∀ n, val rs n = val hs n + val gs n) → PurD C CP H' r dr rs → Q (.ref r) H'
theorem ok_Purse_plus (T : Tx a K mg w) : FnOk P w K mg base CX0 6 a.f_Purse_plus a.d_Purse_plus ps_Purse_plus (spPPlus a.C_Purse a.C_Part) := by
  refine T.F_Purse_plus.ok sc_Purse_plus (fun vs H Q E h => ?_) (fun cdv A outer s H vs Q E hr h => ?_)
  · obtain ⟨p, d, q, e, hs, gs, b, rfl, _⟩ := h
    rfl
  · obtain ⟨p, d, q, e, hs, gs, b, rfl, hp, hq, hsz, hb, hln, k⟩ := h
    have G_Purse_rows := ok_Purse_rows (P := P) (w := w) (base := base) T
    have B_Purse_rows := bnd_Purse_rows T
    have hr_Purse_rows : Room 1 _ := hr.mono (by decide)
    have G_Purse_init := ok_Purse_init (P := P) (w := w) (base := base) T
    obtain ⟨_, D_Purse_init_0, B_Purse_init_0⟩ := bnd_Purse_init_0 T
    obtain ⟨_, D_Purse_init_1, B_Purse_init_1⟩ := bnd_Purse_init_1 T
    have hr_Purse_init : Room 4 _ := hr.mono (by decide)
    have hr1_Purse_init : Room 5 _ := hr.mono (by decide)
    refine ⟨_, (pss_one (ps_ret (pe_make T.mk_Purse G_Purse_init hr1_Purse_init (by rfl) T.mg_Purse B_Purse_init_1 D_Purse_init_1 pass0 (pa_cons (pe_op op_cat (pe_meth0 (pv 0) T.cl_Purse T.m_Purse_rows G_Purse_rows hr_Purse_rows B_Purse_rows .nil pass0) (pe_meth0 (pv 1) T.cl_Purse T.m_Purse_rows G_Purse_rows hr_Purse_rows B_Purse_rows .nil pass0)) pa_nil)))), ?_⟩
    show tRet _ _ [some (V.ref p), some (V.ref q)] H
    have hz16 : sizeLine = 16777216 := rfl
    simp only [rCat, tDNewK, tDIn, tDNotIn, tDGet, sDPut, rIxL, rIxT, rEq, rNe, rIsi, sFld, rSlL, rIn, rEqD, tYes, tCallN, tSeq, tIfS, tOp, tVar, tC, tCB, tCons, tNil, rI0, rI, tTest, tRet, tRetN, tNext, tAsg, gName, gNil, gCons, gTup, gUnl, tLst, tTup, tCall, tMeth, tMake, tUn, rU, tAndV, tOrV, tNotV, tAnd, tOr, tNot, tIf, tB, tFld, tDrop, tPar, tNever, tBM, rAppend, tSl, tPart, tNoPart, tM1, tyLst, List.getElem?_cons_zero, List.getElem?_cons_succ, Option.some.injEq, exists_eq_left', exists_eq_left, V.int.injEq, V.bl.injEq, V.str.injEq, V.ref.injEq, List.set_cons_zero, List.set_cons_succ, exists_and_left, exists_and_right, and_assoc, List.cons.injEq, and_true, true_and, List.cons_append, List.nil_append, List.append_nil, List.length_cons, List.length_nil, exists_eq', exists_eq, exists_const, exists_eq_right, exists_eq_right', cxK, Cx.nox, Cx.wish]
    obtain ⟨dx, kvs, hp1, hp2, hp3⟩ := hp
    refine ⟨_, _, hp1, held_no (by decide +kernel), p, d, hs, rfl, ⟨dx, kvs, hp1, hp2, hp3⟩, fun l1 ts H1 e1 f1 hT1 => ?_⟩
    obtain ⟨dy, kws, hq1, hq2, hq3⟩ := hq.ext e1
    refine ⟨_, _, hq1, held_no (by decide +kernel), q, e, gs, rfl, ⟨dy, kws, hq1, hq2, hq3⟩, fun l2 us H2 e2 f2 hT2 => ?_⟩
    have lt1 : ts.length = hs.length := Paired.length hT1
    have lt2 : us.length = gs.length := Paired.length hT2
    refine ⟨l1, rfl, l2, rfl, _, e2 _ _ f1, _, f2, by rw [List.length_map, List.length_map]; omega, fun l3 hl3 => ?_⟩
    generalize hE : upd H2 l3 _ = H3
    obtain ⟨e3, f3⟩ := alloc hl3 hE
    intro x dx2 hx hdx hne
    have eU : Ext H3 (upd (upd H3 dx2 (.own x)) x (.ins a.C_Purse dx2 [])) := upd_ext (Ext.upd hdx) hx
    have e03 := e1.trans (e2.trans e3)
    have hT : Paired (RowP a.C_Part H3) (ts ++ us) (hs ++ gs) := papp (rowP_ext hT1 (e2.trans e3)) (rowP_ext hT2 e3)
    rw [← List.map_append] at f3
    refine ⟨x, dx2, l3, ts ++ us, hs ++ gs, b, rfl, upd_same, .inl (ofL (eU _ _ f3)), rowP_ext hT eU, hsz, by rw [List.length_append]; exact hb, by rw [List.length_append]; exact hln, fun H' rs dr hcan hval hkeep hd hPu => ⟨rfl, ?_⟩⟩
    exact k x dr rs H' (fun b o hb => hkeep b o (eU _ _ (e03 _ _ hb)) (ne_of_none (e03 _ _ hb) hx)) (none_back e03 (none_upd (none_upd hd))) hcan (fun n => by rw [hval, val_append]) hPu

/-! ### Purse: times, minus -/
def spPTimes (C CP : Addr) : Sp := fun vs H Q _ => ∃ (p d q : Addr) (hs : List (Str × Rat)) (x : Rat) (b c : Nat), vs = [.ref p, .ref q] ∧ PurD C CP H p d hs ∧ PartR CP H q x ∧ (∀ e ∈ hs, Sz e.2 b) ∧ Sz x c ∧ b ≤ 1000 ∧ c ≤ 1000 ∧ 1 + hs.length * (b + c + 1) ≤ 1000 ∧ hs.length < 64 ∧
  ∀ r dr rs H', Ext H H' → H dr = none → Canon rs → (∀ n, val rs n = val hs n * x) → PurD C CP H' r dr rs → Q (.ref r) H'
theorem ok_Purse_times (T : Tx a K mg w) : FnOk P w K mg base CX0 6 a.f_Purse_times a.d_Purse_times ps_Purse_times (spPTimes a.C_Purse a.C_Part) := by
  refine T.F_Purse_times.ok sc_Purse_times (fun vs H Q E h => ?_) (fun cdv A outer s H vs Q E hr h => ?_)
  · obtain ⟨p, d, q, hs, x, b, c, rfl, _⟩ := h
    rfl
  · obtain ⟨p, d, q, hs, x, b, c, rfl, ⟨dx, kvs, hp, hd, hP⟩, hq, hsz, hx, hb9, hc9, hb, hln, k⟩ := h
    have G_Part_times := ok_Part_times (P := P) (w := w) (base := base) T
    have B_Part_times := bnd_Part_times T
    have hr_Part_times : Room 3 _ := hr.mono (by decide)
    have G_Purse_init := ok_Purse_init (P := P) (w := w) (base := base) T
    obtain ⟨_, D_Purse_init_0, B_Purse_init_0⟩ := bnd_Purse_init_0 T
    obtain ⟨_, D_Purse_init_1, B_Purse_init_1⟩ := bnd_Purse_init_1 T
    have hr_Purse_init : Room 4 _ := hr.mono (by decide)
    have hr1_Purse_init : Room 5 _ := hr.mono (by decide)
    refine ⟨_, (pss_one (ps_ret (pe_make T.mk_Purse G_Purse_init hr1_Purse_init (by rfl) T.mg_Purse B_Purse_init_1 D_Purse_init_1 pass0 (pa_cons (pe_lock (pe_lc (own := [("coin", 2), ("held", 3)]) (g := gTup K 2 (gCons (gName 2) (gCons (gName 3) gNil))) rfl sc_Purse_times.nd (pi_items (pe_fld (pv 0) rfl)) (blkOk_by (own := [("coin", 2), ("held", 3)]) (N := N_Purse_times) (sc := defScope s_Purse_times) (by decide +kernel)) (fun _ _ _ _ _ => (pg_tup rfl (pgs_cons (pg_name (i := 2) sc_Purse_times.nd rfl (Or.inl rfl) (Or.inr rfl)) (pgs_cons (pg_name (i := 3) sc_Purse_times.nd rfl (Or.inl rfl) (Or.inr rfl)) pgs_nil)) (by rfl))) (fun _ _ _ _ _ => pts_nil) (fun _ _ _ _ _ => (pe_tup (pa_cons (pv 2) (pa_cons (pe_meth (pv 3) T.cl_Part T.m_Part_times G_Part_times hr_Part_times B_Part_times .nil pass0 (pa_cons (pv 1) pa_nil)) pa_nil)))))) pa_nil)))), ?_⟩
    show tRet _ _ [some (V.ref p), some (V.ref q), none, none] H
    have hz16 : sizeLine = 16777216 := rfl
    simp only [tLockE, tDNewK, tDIn, tDNotIn, tDGet, sDPut, rIxL, rIxT, rEq, rNe, rIsi, sFld, rSlL, rIn, rEqD, tYes, tCallN, tSeq, tIfS, tOp, tVar, tC, tCB, tCons, tNil, rI0, rI, tTest, tRet, tRetN, tNext, tAsg, gName, gNil, gCons, gTup, gUnl, tLst, tTup, tCall, tMeth, tMake, tUn, rU, tAndV, tOrV, tNotV, tAnd, tOr, tNot, tIf, tB, tFld, tDrop, tPar, tNever, tBM, rAppend, tSl, tPart, tNoPart, tM1, tyLst, List.getElem?_cons_zero, List.getElem?_cons_succ, Option.some.injEq, exists_eq_left', exists_eq_left, V.int.injEq, V.bl.injEq, V.str.injEq, V.ref.injEq, List.set_cons_zero, List.set_cons_succ, exists_and_left, exists_and_right, and_assoc, List.cons.injEq, and_true, true_and, List.cons_append, List.nil_append, List.append_nil, List.length_cons, List.length_nil, exists_eq', exists_eq, exists_const, exists_eq_right, exists_eq_right', cxK, Cx.nox, Cx.wish]
    refine ⟨d, .dK kvs, hd, trivial, fun od => ?_⟩
    generalize hF : upd H d (.frz od (.dK kvs)) = HF
    have offF : Off d H HF := hF ▸ Off.upd
    have fF : HF d = some (.frz od (.dK kvs)) := hF ▸ upd_same
    have hpd : p ≠ d := fun z => by rw [z, hd] at hp; cases hp
    have hPF : Paired (Ent (PartR a.C_Part HF)) kvs hs := ent_mono hP fun _ _ z => z.off hd offF
    have hqF := hq.off hd offF
    have hpF := offF _ _ hp hpd
    have hkl : kvs.length = hs.length := Paired.length hP
    refine tLc_i (J := Iti d od kvs) (fun R r => by simp only [iItems, tDNewK, tDIn, tDNotIn, tDGet, sDPut, rIxL, rIxT, rEq, rNe, rIsi, sFld, rSlL, rIn, rEqD, tYes, tCallN, tSeq, tIfS, tOp, tVar, tC, tCB, tCons, tNil, rI0, rI, tTest, tRet, tRetN, tNext, tAsg, gName, gNil, gCons, gTup, gUnl, tLst, tTup, tCall, tMeth, tMake, tUn, rU, tAndV, tOrV, tNotV, tAnd, tOr, tNot, tIf, tB, tFld, tDrop, tPar, tNever, tBM, rAppend, tSl, tPart, tNoPart, tM1, tyLst, List.getElem?_cons_zero, List.getElem?_cons_succ, Option.some.injEq, exists_eq_left', exists_eq_left, V.int.injEq, V.bl.injEq, V.str.injEq, V.ref.injEq, List.set_cons_zero, List.set_cons_succ, exists_and_left, exists_and_right, and_assoc, List.cons.injEq, and_true, true_and, List.cons_append, List.nil_append, List.append_nil, List.length_cons, List.length_nil, exists_eq', exists_eq, exists_const, exists_eq_right, exists_eq_right', cxK, Cx.nox, Cx.wish]; exact ⟨_, _, _, hpF, T.cl_Purse, T.na_Purse__held, _, held_yes, d, rfl, od, kvs, fF, r⟩) walk_items fun D hD => ?_
    refine ⟨fun i H' => Ext HF H' ∧ ∃ ts : List Addr, H' D = some (.lst (ts.map V.ref)) ∧ ts.length = i ∧ Paired (RowP a.C_Part H') ts (timesL x (hs.take i)), ⟨Ext.upd hD, [], upd_same, rfl, .nil⟩, fun i H' _ h => h.1 _ _ fF, ?_, ?_⟩
    · rintro i y H1 H2 hi ⟨eF, ts, fD, hl, hT⟩ ⟨tq, xk, xv, rfl, htq, rfl, hxk, hxv⟩
      have hk : kvs[i]? = some kvs[i] := List.getElem?_eq_getElem hi
      obtain ⟨e, he, q2, hkv, hq2⟩ := LiI.paired_get hPF hk
      have hxk : kvs[i]?.map (fun kv => kV kv.1) = some xk := hxk
      have hxv : kvs[i]?.map Prod.snd = some xv := hxv
      rw [hk, hkv] at hxk hxv
      obtain rfl : xk = V.str e.1 := (Option.some.inj hxk).symm
      obtain rfl : xv = V.ref q2 := (Option.some.inj hxv).symm
      generalize hE : upd H1 tq _ = H3
      obtain ⟨e3, f3⟩ := alloc htq hE
      have ew : (wipe [some (V.ref p), some (V.ref q), none, none] (List.map (fun x => x.snd) [((Str.ofString "coin" : Str), 2), ((Str.ofString "held" : Str), 3)])) = [some (V.ref p), some (V.ref q), none, none] := rfl
      simp only [ew, tDNewK, tDIn, tDNotIn, tDGet, sDPut, rIxL, rIxT, rEq, rNe, rIsi, sFld, rSlL, rIn, rEqD, tYes, tCallN, tSeq, tIfS, tOp, tVar, tC, tCB, tCons, tNil, rI0, rI, tTest, tRet, tRetN, tNext, tAsg, gName, gNil, gCons, gTup, gUnl, tLst, tTup, tCall, tMeth, tMake, tUn, rU, tAndV, tOrV, tNotV, tAnd, tOr, tNot, tIf, tB, tFld, tDrop, tPar, tNever, tBM, rAppend, tSl, tPart, tNoPart, tM1, tyLst, List.getElem?_cons_zero, List.getElem?_cons_succ, Option.some.injEq, exists_eq_left', exists_eq_left, V.int.injEq, V.bl.injEq, V.str.injEq, V.ref.injEq, List.set_cons_zero, List.set_cons_succ, exists_and_left, exists_and_right, and_assoc, List.cons.injEq, and_true, true_and, List.cons_append, List.nil_append, List.append_nil, List.length_cons, List.length_nil, exists_eq', exists_eq, exists_const, exists_eq_right, exists_eq_right', cxK, Cx.nox, Cx.wish]
      have eF3 := eF.trans e3
      obtain ⟨dq2, hq3⟩ := hq2.ext eF3
      obtain ⟨dq, hqx⟩ := hqF.ext eF3
      have hem := List.mem_of_getElem? he
      refine ⟨_, ofT f3, rfl, _, _, rfl, _, _, rfl, rfl, rfl, ?_⟩
      rw [if_pos trivial]
      refine ⟨q2, rfl, _, _, hq3, fsP_no _ _ (by decide +kernel) (by decide +kernel), ?_⟩
      refine times_r (x := e.2) ⟨dq2, hq3⟩ ⟨dq, hqx⟩ ((hsz e hem).mono hb9) (hx.mono hc9) fun r H4 e4 _ hr4 => ?_
      refine ⟨by decide, fun pt hpt => ?_⟩
      generalize hE2 : upd H4 pt _ = H5
      obtain ⟨e5, f5⟩ := alloc hpt hE2
      have e15 := e3.trans (e4.trans e5)
      have fD5 := e15 _ _ fD
      have o5 : Off D H5 (upd H5 D (.lst (ts.map V.ref ++ [V.ref pt]))) := Off.upd
      refine ⟨_, fD5, by rw [List.length_map]; omega, upd_ext (eF.trans e15) hD, ts ++ [pt], by rw [upd_same, List.map_append]; rfl, by rw [List.length_append, hl]; rfl, ?_⟩
      rw [take_snoc he]
      unfold timesL
      rw [List.map_append]
      exact rowP_offL (Paired.snoc (rowP_ext hT e15) ⟨r, f5, hr4.ext e5⟩) fD5 o5
    · rintro H1 ⟨eF, ts, fD, hl, hT⟩
      rw [List.take_of_length_le (by omega)] at hT
      refine ⟨eF _ _ fF, ?_⟩
      have e01 : Ext H (upd H1 d (.dK kvs)) := lock_out (od := od) hd (hF ▸ eF)
      have hDd : D ≠ d := fun z => by rw [z, fF] at hD; cases hD
      have fD2 : upd H1 d (.dK kvs) D = some (.lst (ts.map V.ref)) := by rw [upd_ne hDd]; exact fD
      have hT2 : Paired (RowP a.C_Part (upd H1 d (.dK kvs))) ts (timesL x hs) := pmono (fun t r z => by
        obtain ⟨q, z1, dq, z2⟩ := z
        have g := eF _ _ fF
        exact ⟨q, by rw [upd_ne (fun y => by rw [y, g] at z1; cases z1)]; exact z1, dq, by rw [upd_ne (fun y => by rw [y, g] at z2; cases z2)]; exact z2⟩) hT
      generalize upd H1 d (.dK kvs) = H2 at e01 fD2 hT2 ⊢
      intro y dy hy hdy hne
      have eU : Ext H2 (upd (upd H2 dy (.own y)) y (.ins a.C_Purse dy [])) := upd_ext (Ext.upd hdy) hy
      have hlen : (timesL x hs).length = hs.length := List.length_map ..
      refine ⟨y, dy, D, ts, timesL x hs, b + c, rfl, upd_same, .inl (ofL (eU _ _ fD2)), rowP_ext hT2 eU, fun e he => ?_, by rw [hlen]; exact hb, by rw [hlen]; exact hln, fun H' rs dr hcan hval hkeep hdn hPu => ⟨rfl, ?_⟩⟩
      · obtain ⟨e0, he0, rfl⟩ := List.mem_map.mp he
        exact (hsz e0 he0).mul hx
      · exact k y dr rs H' (fun b o hb => hkeep b o (eU _ _ (e01 _ _ hb)) (ne_of_none (e01 _ _ hb) hy)) (none_back e01 (none_upd (none_upd hdn))) hcan (fun n => by rw [hval, val_times]) hPu
def spPMinus (C CP : Addr) : Sp := fun vs H Q _ => ∃ (p d q e : Addr) (hs gs : List (Str × Rat)) (b : Nat), vs = [.ref p, .ref q] ∧ PurD C CP H p d hs ∧ PurD C CP H q e gs ∧ Canon gs ∧ (∀ x ∈ hs ++ gs, Sz x.2 b) ∧ 1 + (hs.length + gs.length) * (b + 3) ≤ 1000 ∧ hs.length + gs.length < 64 ∧
  ∀ r dr rs H', Ext H H' → H dr = none → Canon rs → (∀ n, val rs n = val hs n - val gs n) → PurD C CP H' r dr rs → Q (.ref r) H'
theorem ok_Purse_minus (T : Tx a K mg w) : FnOk P w K mg base CX0 7 a.f_Purse_minus a.d_Purse_minus ps_Purse_minus (spPMinus a.C_Purse a.C_Part) := by
  refine T.F_Purse_minus.ok sc_Purse_minus (fun vs H Q E h => ?_) (fun cdv A outer s H vs Q E hr h => ?_)
  · obtain ⟨p, d, q, e, hs, gs, b, rfl, _⟩ := h
    rfl
  · obtain ⟨p, d, q, e, hs, gs, b, rfl, hp, hq, hcg, hsz, hb, hln, k⟩ := h
    have G_Part_init := ok_Part_init (P := P) (w := w) (base := base) T
    obtain ⟨_, D_Part_init_1, B_Part_init_1⟩ := bnd_Part_init_1 T
    obtain ⟨_, D_Part_init_2, B_Part_init_2⟩ := bnd_Part_init_2 T
    have hr_Part_init : Room 1 _ := hr.mono (by decide)
    have hr1_Part_init : Room 2 _ := hr.mono (by decide)
    have G_Purse_times := ok_Purse_times (P := P) (w := w) (base := base) T
    have B_Purse_times := bnd_Purse_times T
    have hr_Purse_times : Room 6 _ := hr.mono (by decide)
    have G_Purse_plus := ok_Purse_plus (P := P) (w := w) (base := base) T
    have B_Purse_plus := bnd_Purse_plus T
    have hr_Purse_plus : Room 6 _ := hr.mono (by decide)
    refine ⟨_, (pss_one (ps_ret (pe_meth (pv 0) T.cl_Purse T.m_Purse_plus G_Purse_plus hr_Purse_plus B_Purse_plus .nil pass0 (pa_cons (pe_meth (pv 1) T.cl_Purse T.m_Purse_times G_Purse_times hr_Purse_times B_Purse_times .nil pass0 (pa_cons (pe_make T.mk_Part G_Part_init hr1_Part_init (by rfl) T.mg_Part B_Part_init_1 D_Part_init_1 pass0 (pa_cons (pe_un un_neg pe_int) pa_nil)) pa_nil)) pa_nil)))), ?_⟩
    show tRet _ _ [some (V.ref p), some (V.ref q)] H
    simp only [tDNewK, tDIn, tDNotIn, tDGet, sDPut, rIxL, rIxT, rEq, rNe, rIsi, sFld, rSlL, rIn, rEqD, tYes, tCallN, tSeq, tIfS, tOp, tVar, tC, tCB, tCons, tNil, rI0, rI, tTest, tRet, tRetN, tNext, tAsg, gName, gNil, gCons, gTup, gUnl, tLst, tTup, tCall, tMeth, tMake, tUn, rU, tAndV, tOrV, tNotV, tAnd, tOr, tNot, tIf, tB, tFld, tDrop, tPar, tNever, tBM, rAppend, tSl, tPart, tNoPart, tM1, tyLst, List.getElem?_cons_zero, List.getElem?_cons_succ, Option.some.injEq, exists_eq_left', exists_eq_left, V.int.injEq, V.bl.injEq, V.str.injEq, V.ref.injEq, List.set_cons_zero, List.set_cons_succ, exists_and_left, exists_and_right, and_assoc, List.cons.injEq, and_true, true_and, List.cons_append, List.nil_append, List.append_nil, List.length_cons, List.length_nil, exists_eq', exists_eq, exists_const, exists_eq_right, exists_eq_right', cxK, Cx.nox, Cx.wish]
    obtain ⟨dx, kvs, hp1, hp2, hp3⟩ := hp
    obtain ⟨dy, kws, hq1, hq2, hq3⟩ := hq
    have hgb : ∀ x ∈ gs, Sz x.2 b := fun x hx => hsz x (List.mem_append_right _ hx)
    have hl1 : gs.length * (b + 3) ≤ (hs.length + gs.length) * (b + 3) := Nat.mul_le_mul_right _ (by omega)
    have hl2 : gs.length * (b + 2 + 1) = gs.length * (b + 3) := rfl
    refine ⟨_, _, hp1, held_no (by decide +kernel), _, _, hq1, held_no (by decide +kernel), fun x dx2 hx hdx _ => ?_⟩
    refine mk_partR (t := -1) (l := 1) hx hdx (by decide) (Nat.lt_of_lt_of_le (show (-1 : Int).natAbs < 2 ^ 2 by decide) (Nat.pow_le_pow_right (by decide) (by decide))) (Nat.lt_of_lt_of_le (show (1 : Int).natAbs < 2 ^ 1 by decide) (Nat.pow_le_pow_right (by decide) (by decide))) fun H1 e1 P1 => ⟨rfl, ?_⟩
    have s1 : Sz (Rat.divInt (-1) 1) 2 := Sz.of (by decide) (by decide) (by decide)
    have hbig : ∀ {n : Nat}, n < 64 → 1 + n * (b + 3) ≤ 1000 → 0 < n → b ≤ 1000 := fun {n} _ h0 h1 => by
      have : 1 * (b + 3) ≤ n * (b + 3) := Nat.mul_le_mul_right _ h1
      omega
    by_cases hg0 : gs = []
    · subst hg0
      refine ⟨q, e, x, [], _, 0, 2, rfl, PurD.ext ⟨dy, kws, hq1, hq2, hq3⟩ e1, P1, fun e he => absurd he List.not_mem_nil, s1, by decide, by decide, by decide, by decide, fun r dr rs H2 e2 hdr hcr hvr hPr => ?_⟩
      have hrs : rs = [] := hcr.eq Canon.nil fun n => by rw [hvr]; show (0 : Rat) * _ = 0; exact Rat.zero_mul _
      subst hrs
      refine ⟨p, d, r, dr, hs, [], b, rfl, PurD.ext ⟨dx, kvs, hp1, hp2, hp3⟩ (e1.trans e2), hPr, hsz, ?_, hln, fun r3 dr3 rs3 H3 e3 hdr3 hcr3 hvr3 hPr3 => ?_⟩
      · have h1 : (hs.length + ([] : List (Str × Rat)).length) * (b + 1) ≤ (hs.length + ([] : List (Str × Rat)).length) * (b + 3) := Nat.mul_le_mul_left _ (by omega)
        omega
      · exact k r3 dr3 rs3 H3 (e1.trans (e2.trans e3)) (none_back (e1.trans e2) hdr3) hcr3 (fun n => by rw [hvr3]; show val hs n + 0 = val hs n - 0; grind) hPr3
    · have hg1 : 0 < gs.length := List.length_pos_iff.mpr hg0
      have hb9 : b ≤ 1000 := hbig (n := gs.length) (by omega) (by omega) hg1
      refine ⟨q, e, x, gs, _, b, 2, rfl, PurD.ext ⟨dy, kws, hq1, hq2, hq3⟩ e1, P1, hgb, s1, hb9, by decide, by omega, by omega, fun r dr rs H2 e2 hdr hcr hvr hPr => ?_⟩
      have hrs : rs = timesL (Rat.divInt (-1) 1) gs := hcr.eq ⟨by unfold timesL; rw [List.map_map]; exact hcg.up, by unfold timesL; rw [List.map_map]; exact hcg.nd, fun y hy => by
          obtain ⟨y0, hy0, rfl⟩ := List.mem_map.mp hy
          have h0 := hcg.nz y0 hy0
          show y0.2 * Rat.divInt (-1) 1 ≠ 0
          rw [show Rat.divInt (-1) 1 = -1 by decide +kernel]
          grind⟩ fun n => by rw [hvr, val_times]
      have hrl : rs.length = gs.length := by rw [hrs]; exact List.length_map ..
      refine ⟨p, d, r, dr, hs, rs, b + 2, rfl, PurD.ext ⟨dx, kvs, hp1, hp2, hp3⟩ (e1.trans e2), hPr, fun y hy => ?_, by rw [hrl]; exact hb, by rw [hrl]; exact hln, fun r3 dr3 rs3 H3 e3 hdr3 hcr3 hvr3 hPr3 => ?_⟩
      · rcases List.mem_append.mp hy with h | h
        · exact (hsz y (List.mem_append_left _ h)).mono (by omega)
        · rw [hrs] at h
          obtain ⟨y0, hy0, rfl⟩ := List.mem_map.mp h
          exact (hgb y0 hy0).mul s1
      · exact k r3 dr3 rs3 H3 (e1.trans (e2.trans e3)) (none_back (e1.trans e2) hdr3) hcr3 (fun n => by rw [hvr3, hvr, show Rat.divInt (-1) 1 = -1 by decide +kernel]; grind) hPr3

/-! ### Purse: held against another one -/
theorem partR_inj {C : Addr} {H : Hp} {p : Addr} {x y : Rat} (h1 : PartR C H p x) (h2 : PartR C H p y) : x = y := by
  obtain ⟨d1, h1⟩ := h1
  obtain ⟨d2, h2⟩ := h2
  have e := (HO.ins.inj (Option.some.inj (h1.symm.trans h2))).2.2
  have en := congrArg (fun l => l.lookup ("top" : Str)) e
  have ed := congrArg (fun l => l.lookup ("low" : Str)) e
  simp only [fsP_top, fsP_low] at en ed
  have en := V.int.inj (Option.some.inj en)
  have ed := V.int.inj (Option.some.inj ed)
  exact Rat.ext en (by omega)
theorem rat_dec {x y : Rat} : (decide (x.num = y.num) && decide ((x.den : Int) = y.den)) = decide (x = y) := by
  rw [← Bool.decide_and]
  refine decide_eq_decide.mpr ⟨fun h => Rat.ext h.1 (by omega), fun h => by rw [h]; exact ⟨rfl, rfl⟩⟩
theorem part_held (T : Tx a K mg w) {H : Hp} {p q : Addr} {x y : Rat} (hp : PartR a.C_Part H p x) (hq : PartR a.C_Part H q y) : ValEq K a.C_Part (spPartEq K a.C_Part) E0 H (.ref p) (.ref q) (decide (x = y)) := by
  refine ⟨p, q, rfl, rfl, ?_⟩
  by_cases e : p = q
  · refine .inl ⟨e, ?_⟩
    subst e
    exact decide_eq_true (partR_inj hp hq)
  · obtain ⟨d1, h1⟩ := hp
    obtain ⟨d2, h2⟩ := hq
    refine .inr ⟨e, d1, _, _, h1, ty_Part T h2, T.nf_Part_Part, p, _, _, .ref q, rfl, ⟨d1, h1⟩, .inl ⟨q, _, _, rfl, ⟨d2, h2⟩, ?_, rfl⟩⟩
    rw [rat_dec]
theorem purse_held (T : Tx a K mg w) {H : Hp} {kb : List (Key × V)} {gs : List (Str × Rat)} (hb : Paired (Ent (PartR a.C_Part H)) kb gs) (nd : (gs.map (·.1)).Nodup) : ∀ {ka : List (Key × V)} {hs : List (Str × Rat)}, Paired (Ent (PartR a.C_Part H)) ka hs → (∀ x ∈ hs, x.2 ≠ 0) →
    Held K a.C_Part (spPartEq K a.C_Part) E0 H kb ka (hs.all fun x => decide (val gs x.1 = x.2))
  | _, _, .nil, _ => .nil
  | _, x :: hs, .cons ⟨p, hkv, hp⟩ hr, hnz => by
    have ih := purse_held T hb nd hr fun y hy => hnz y (List.mem_cons_of_mem _ hy)
    have hx0 := hnz x List.mem_cons_self
    rw [hkv, List.all_cons]
    by_cases hn : x.1 ∈ gs.map (·.1)
    · obtain ⟨y, hy, hyx⟩ := List.mem_map.mp hn
      obtain ⟨q, hv, hq⟩ := ent_get hb nd hy
      rw [hyx] at hv
      have hvy : val gs x.1 = y.2 := by rw [← hyx]; exact val_mem (n := y.1) nd hy
      have hpq := part_held T hp hq
      rw [hvy]
      by_cases e : x.2 = y.2
      · rw [decide_eq_true e] at hpq
        rw [decide_eq_true e.symm, Bool.true_and]
        exact .yes hv hpq ih
      · rw [decide_eq_false e] at hpq
        rw [decide_eq_false (fun z => e z.symm), Bool.false_and]
        exact .no hv hpq
    · rw [val_miss hn, decide_eq_false (fun z => hx0 z.symm), Bool.false_and]
      exact .miss (val_none (ent_miss hb hn))
theorem lock_two {H : Hp} {d e : Addr} {u v f g : HO} (hd : H d = some u) (he : H e = some v) (hne : d ≠ e) : upd (upd (upd (upd H d f) e g) e v) d u = H := by
  funext b
  by_cases h1 : b = d
  · rw [h1, upd_same, hd]
  · rw [upd_ne h1]
    by_cases h2 : b = e
    · rw [h2, upd_same, he]
    · rw [upd_ne h2, upd_ne h2, upd_ne h1]
def spPurEq (K : PySem.W.Frag) (C CP : Addr) : Sp := fun vs H Q _ => ∃ (p d : Addr) (hs : List (Str × Rat)) (y : V), vs = [.ref p, y] ∧ PurD C CP H p d hs ∧ Canon hs ∧
  ((∃ (q e : Addr) (gs : List (Str × Rat)), y = .ref q ∧ PurD C CP H q e gs ∧ Canon gs ∧ d ≠ e ∧ Q (.bl (decide (hs = gs))) H) ∨ ∃ ty, TyX K H y ty ∧ PySem.W.kitOne K ty (.ref C) = some false ∧ Q (.bl false) H)
theorem ok_Purse_eq (T : Tx a K mg w) : FnOk P w K mg base CX0 3 a.f_Purse_eq a.d_Purse_eq ps_Purse_eq (spPurEq K a.C_Purse a.C_Part) := by
  refine T.F_Purse_eq.ok sc_Purse_eq (fun vs H Q E h => ?_) (fun cdv A outer s H vs Q E hr h => ?_)
  · obtain ⟨p, d, hs, y, rfl, _⟩ := h
    rfl
  · obtain ⟨p, d, hs, y, rfl, ⟨dx, kvs, hp, hd, hP⟩, hcan, h⟩ := h
    have G_Part_eq := ok_Part_eq (P := P) (w := w) (base := base) T
    have B_Part_eq := bnd_Part_eq T
    have hr_Part_eq : Room 1 _ := hr.mono (by decide)
    have hr1_Part_eq : Room 2 _ := hr.mono (by decide)
    refine ⟨_, (pss_one (ps_ret (pe_and (pe_callB call_isi (by rfl) T.no_isinstance (by decide +kernel) (pa_cons (pv 1) (pa_cons (pe_glob (v := V.ref a.C_Purse) rfl T.mg_Purse rfl) pa_nil))) (pe_one (pe_lock (pe_lock (pe_cmpR (op_eq_dictO G_Part_eq hr1_Part_eq B_Part_eq pass0 T.m_Part_eq.at_ T.m_Part_eq.fn) (pe_fld (pv 0) rfl) (pe_fld (pv 1) rfl) (nomark _)))))))), ?_⟩
    show tRet _ _ [some (V.ref p), some y] H
    simp only [tDNewK, tDIn, tDNotIn, tDGet, sDPut, rIxL, rIxT, rEq, rNe, rIsi, sFld, rSlL, rIn, rEqD, tYes, tCallN, tSeq, tIfS, tOp, tVar, tC, tCB, tCons, tNil, rI0, rI, tTest, tRet, tRetN, tNext, tAsg, gName, gNil, gCons, gTup, gUnl, tLst, tTup, tCall, tMeth, tMake, tUn, rU, tAndV, tOrV, tNotV, tAnd, tOr, tNot, tIf, tB, tFld, tDrop, tPar, tNever, tBM, rAppend, tSl, tPart, tNoPart, tM1, tyLst, List.getElem?_cons_zero, List.getElem?_cons_succ, Option.some.injEq, exists_eq_left', exists_eq_left, V.int.injEq, V.bl.injEq, V.str.injEq, V.ref.injEq, List.set_cons_zero, List.set_cons_succ, exists_and_left, exists_and_right, and_assoc, List.cons.injEq, and_true, true_and, List.cons_append, List.nil_append, List.append_nil, List.length_cons, List.length_nil, exists_eq', exists_eq, exists_const, exists_eq_right, exists_eq_right', cxK, Cx.nox, Cx.wish]
    rcases h with ⟨q, e, gs, rfl, ⟨dy, kws, hq, he, hG⟩, hcg, hne, k⟩ | ⟨ty, h1, h2, k⟩
    · refine ⟨_, _, .own a.C_Purse, ty_Purse T hq, true, T.kit_Purse_Purse, iteT ?_⟩
      simp only [tLockE, rEqDO, tDNewK, tDIn, tDNotIn, tDGet, sDPut, rIxL, rIxT, rEq, rNe, rIsi, sFld, rSlL, rIn, rEqD, tYes, tCallN, tSeq, tIfS, tOp, tVar, tC, tCB, tCons, tNil, rI0, rI, tTest, tRet, tRetN, tNext, tAsg, gName, gNil, gCons, gTup, gUnl, tLst, tTup, tCall, tMeth, tMake, tUn, rU, tAndV, tOrV, tNotV, tAnd, tOr, tNot, tIf, tB, tFld, tDrop, tPar, tNever, tBM, rAppend, tSl, tPart, tNoPart, tM1, tyLst, List.getElem?_cons_zero, List.getElem?_cons_succ, Option.some.injEq, exists_eq_left', exists_eq_left, V.int.injEq, V.bl.injEq, V.str.injEq, V.ref.injEq, List.set_cons_zero, List.set_cons_succ, exists_and_left, exists_and_right, and_assoc, List.cons.injEq, and_true, true_and, List.cons_append, List.nil_append, List.append_nil, List.length_cons, List.length_nil, exists_eq', exists_eq, exists_const, exists_eq_right, exists_eq_right', cxK, Cx.nox, Cx.wish]
      have hpd : p ≠ d := fun z => by rw [z, hd] at hp; cases hp
      have hpe : p ≠ e := fun z => by rw [z, he] at hp; cases hp
      have hqd : q ≠ d := fun z => by rw [z, hd] at hq; cases hq
      have hqe : q ≠ e := fun z => by rw [z, he] at hq; cases hq
      refine ⟨d, .dK kvs, hd, trivial, fun od => ⟨e, .dK kws, by rw [upd_ne hne.symm]; exact he, trivial, fun oe => ?_⟩⟩
      have offL : ∀ b o, H b = some o → b ≠ d → b ≠ e → upd (upd H d (.frz od (.dK kvs))) e (.frz oe (.dK kws)) b = some o := fun b o hb h1 h2 => by rw [upd_ne h2, upd_ne h1]; exact hb
      have hPL : Paired (Ent (PartR a.C_Part (upd (upd H d (.frz od (.dK kvs))) e (.frz oe (.dK kws))))) kvs hs := ent_mono hP fun q z hz => by
        obtain ⟨dq, hz⟩ := hz
        exact ⟨dq, offL _ _ hz (fun y => by rw [y, hd] at hz; cases hz) (fun y => by rw [y, he] at hz; cases hz)⟩
      have hGL : Paired (Ent (PartR a.C_Part (upd (upd H d (.frz od (.dK kvs))) e (.frz oe (.dK kws))))) kws gs := ent_mono hG fun q z hz => by
        obtain ⟨dq, hz⟩ := hz
        exact ⟨dq, offL _ _ hz (fun y => by rw [y, hd] at hz; cases hz) (fun y => by rw [y, he] at hz; cases hz)⟩
      have l1 : kvs.length = hs.length := Paired.length hP
      have l2 : kws.length = gs.length := Paired.length hG
      refine ⟨_, _, _, offL _ _ hp hpd hpe, T.cl_Purse, T.na_Purse__held, _, held_yes, _, _, _, offL _ _ hq hqd hqe, T.cl_Purse, T.na_Purse__held, _, held_yes, d, rfl, e, rfl, od, oe, kvs, by rw [upd_ne hne]; exact upd_same, kws, upd_same, hs.all (fun x => decide (val gs x.1 = x.2)), fun _ => purse_held T hGL hcg.nd hPL hcan.nz, upd_same, by rw [upd_ne hne, upd_ne hne]; exact upd_same, ?_⟩
      rw [lock_two hd he hne, l1, l2, canon_all hcan hcg]
      exact k
    · exact ⟨_, _, .own a.C_Purse, h1, false, h2, iteF k⟩

end
end My

set_option Elab.async false
set_option maxRecDepth 100000
set_option maxHeartbeats 4000000
set_option linter.all false
namespace My
open PySem L2 Own
section
variable {P : Program} {w : World} {K : PySem.W.Frag} {mg : Str → Option Value} {base : Heap} {a : Adr}
/-! ### paths -/
structure Lk where
  n : Int
  day : Int
  g : Str
  t : Str
  c : Str
  pr : Int
  m : Int
def lkV (l : Lk) : List V := [.int l.n, .int l.day, .str l.g, .str l.t, .str l.c, .int l.pr, .int l.m]
def LkIn (H : Hp) (t : Addr) (l : Lk) : Prop := H t = some (.tup (lkV l))
def PathAt (K : PySem.W.Frag) (H : Hp) (p : Addr) (ls : List Lk) : Prop := ∃ ts : List Addr, SqT K H p (ts.map V.ref) ∧ Paired (LkIn H) ts ls
theorem lk_ext {H H' : Hp} {ts : List Addr} {ls : List Lk} (h : Paired (LkIn H) ts ls) (e : Ext H H') : Paired (LkIn H') ts ls := pmono (fun _ _ z => e _ _ z) h
theorem lk_off {d : Addr} {H H' : Hp} {ts : List Addr} {ls : List Lk} {u : HO} (h : Paired (LkIn H) ts ls) (hd : H d = some u) (hu : ∀ xs, u ≠ .tup xs) (e : Off d H H') : Paired (LkIn H') ts ls := pmono (fun t l z => e _ _ z fun y => by
  have z : H t = some (.tup (lkV l)) := z
  rw [y, hd] at z
  exact hu _ (Option.some.inj z)) h
theorem PathAt.ext {K : PySem.W.Frag} {H H' : Hp} {p : Addr} {ls : List Lk} (h : PathAt K H p ls) (e : Ext H H') : PathAt K H' p ls := by
  obtain ⟨ts, h1, h2⟩ := h
  exact ⟨ts, h1.ext e, lk_ext h2 e⟩
theorem SqT.off {K : PySem.W.Frag} {H H' : Hp} {p d : Addr} {xs : List V} {kvs : List (Key × V)} (h : SqT K H p xs) (hd : H d = some (.dK kvs)) (e : Off d H H') : SqT K H' p xs := by
  rcases h with (h | ⟨o, h⟩) | h
  · exact .inl (.inl (e _ _ h fun z => by rw [z, hd] at h; cases h))
  · exact .inl (.inr ⟨o, e _ _ h fun z => by rw [z, hd] at h; cases h⟩)
  · exact .inr h
theorem PathAt.off {K : PySem.W.Frag} {H H' : Hp} {p d : Addr} {ls : List Lk} {kvs : List (Key × V)} (h : PathAt K H p ls) (hd : H d = some (.dK kvs)) (e : Off d H H') : PathAt K H' p ls := by
  obtain ⟨ts, h1, h2⟩ := h
  exact ⟨ts, SqT.off h1 hd e, lk_off h2 hd (fun _ z => by cases z) e⟩
def lkD (l : Lk) : PyData := .tuple [.int l.n, .int l.day, .str l.g, .str l.t, .str l.c, .int l.pr, .int l.m]
theorem lk_dp {H : Hp} : ∀ {ts : List Addr} {ls : List Lk}, Paired (LkIn H) ts ls → DpAll K H (ts.map V.ref) (ls.map lkD)
  | _, _, .nil => .nil
  | _, _, .cons a b => .cons (.tup (ofT a) (.cons (.int _) (.cons (.int _) (.cons (.str _) (.cons (.str _) (.cons (.str _) (.cons (.int _) (.cons (.int _) .nil)))))))) (lk_dp b)
theorem PathAt.dp {H : Hp} {p : Addr} {ls : List Lk} (h : PathAt K H p ls) : Dp K H (.ref p) (.tuple (ls.map lkD)) := by
  obtain ⟨ts, h1, h2⟩ := h
  exact .tup h1 (lk_dp h2)
/-- a link as the law draws it -/
structure LkOk (l : Lk) : Prop where
  n : l.n.natAbs < 2 ^ 60
  day : l.day.natAbs < 2 ^ 60
  g : Small l.g 6
  t : Small l.t 6
  c : Small l.c 6
  pr : l.pr.natAbs < 2 ^ 60
  m : l.m.natAbs < 2 ^ 60
  m0 : l.m ≠ 0
theorem log60 {i : Int} (h : i.natAbs < 2 ^ 60) : i.natAbs.log2 < 1920 := log2_of (Nat.lt_of_lt_of_le h (Nat.pow_le_pow_right (by decide) (by decide)))
theorem LkOk.mild {l : Lk} (h : LkOk l) : Mild (lkD l) 14000 1 := by
  refine (Mild.tuple (n := 1921) (k := 0) (m := 7) (fun d hd => ?_) (Nat.le_refl _)).mono (by decide) (Nat.le_refl _)
  have hs : ∀ {y : Str}, Small y 6 → Mild (.str y) 1921 0 := fun a => (Mild.str a).mono (by decide) (Nat.le_refl _)
  simp only [List.mem_cons, List.not_mem_nil, or_false] at hd
  rcases hd with e | e | e | e | e | e | e <;> rw [e]
  · exact Mild.int (log60 h.n)
  · exact Mild.int (log60 h.day)
  · exact hs h.g
  · exact hs h.t
  · exact hs h.c
  · exact Mild.int (log60 h.pr)
  · exact Mild.int (log60 h.m)
theorem path_mild {ls : List Lk} (h : ∀ l ∈ ls, LkOk l) (hl : ls.length ≤ 64) : Mild (.tuple (ls.map lkD)) 1000000 2 :=
  (Mild.tuple (n := 14000) (k := 1) (m := 64) (fun d hd => by
    obtain ⟨l, hl, rfl⟩ := List.mem_map.mp hd
    exact (h l hl).mild) (by rw [List.length_map]; exact hl)).mono (by decide) (Nat.le_refl _)
def innerL (kvs : List (Key × V)) (l : Lk) : Bool := underD kvs l.g l.day && underD kvs l.t l.day
def cutL (kvs : List (Key × V)) (ls : List Lk) : List Lk := ls.filter fun l => !innerL kvs l
def spCut (K : PySem.W.Frag) : Sp := fun vs H Q _ => ∃ (p s : Addr) (kvs : List (Key × V)) (ls : List Lk), vs = [.ref p, .ref s] ∧ PathAt K H p ls ∧ H s = some (.dK kvs) ∧ AllV IsI kvs ∧ ls.length ≤ 1000 ∧ ∀ q H', Ext H H' → PathAt K H' q (cutL kvs ls) → Q (.ref q) H'
theorem ok_cut (T : Tx a K mg w) : FnOk P w K mg base CX0 3 a.f_cut a.d_cut ps_cut (spCut K) := by
  refine T.F_cut.ok sc_cut (fun vs H Q E h => ?_) (fun cdv A outer s H vs Q E hr h => ?_)
  · obtain ⟨p, s, kvs, ls, rfl, _⟩ := h
    rfl
  · obtain ⟨p, s, kvs, ls, rfl, ⟨ts, hp, hT⟩, hs, hI, hln, k⟩ := h
    have G_inner := ok_inner (P := P) (w := w) (base := base) T
    have B_inner := bnd_inner T
    have hr_inner : Room 2 _ := hr.mono (by decide)
    refine ⟨_, (pss_one (ps_ret (pe_callTy call_tuple_of (by rfl) T.no_tuple (by decide +kernel) (pa_cons (pe_lc (own := [("link", 2)]) rfl sc_cut.nd (pi_tup (pv 0)) (blkOk_by (own := [("link", 2)]) (N := N_cut) (sc := defScope s_cut) (by decide +kernel)) (fun _ _ _ _ _ => (pg_name (i := 2) sc_cut.nd rfl (Or.inl rfl))) (fun _ _ _ _ _ => (pts_one (pt_not (pt_val (pe_call G_inner hr_inner (by rfl) T.mg_inner T.F_inner.kp B_inner .nil pass0 (pa_cons (pv 2) (pa_cons (pv 1) pa_nil))))))) (fun _ _ _ _ _ => (pv 2))) pa_nil)))), ?_⟩
    show tRet _ _ [some (V.ref p), some (V.ref s), none] H
    have hz16 : sizeLine = 16777216 := rfl
    have htl : ts.length = ls.length := Paired.length hT
    simp only [tDNewK, tDIn, tDNotIn, tDGet, sDPut, rIxL, rIxT, rEq, rNe, rIsi, sFld, rSlL, rIn, rEqD, tYes, tCallN, tSeq, tIfS, tOp, tVar, tC, tCB, tCons, tNil, rI0, rI, tTest, tRet, tRetN, tNext, tAsg, gName, gNil, gCons, gTup, gUnl, tLst, tTup, tCall, tMeth, tMake, tUn, rU, tAndV, tOrV, tNotV, tAnd, tOr, tNot, tIf, tB, tFld, tDrop, tPar, tNever, tBM, rAppend, tSl, tPart, tNoPart, tM1, tyLst, List.getElem?_cons_zero, List.getElem?_cons_succ, Option.some.injEq, exists_eq_left', exists_eq_left, V.int.injEq, V.bl.injEq, V.str.injEq, V.ref.injEq, List.set_cons_zero, List.set_cons_succ, exists_and_left, exists_and_right, and_assoc, List.cons.injEq, and_true, true_and, List.cons_append, List.nil_append, List.append_nil, List.length_cons, List.length_nil, exists_eq', exists_eq, exists_const, exists_eq_right, exists_eq_right', cxK, Cx.nox, Cx.wish]
    refine tLc_i (J := Itt K p) (fun R r => ⟨_, rfl, p, rfl, ⟨_, hp⟩, r⟩) (walk_tup (K := K) (a := p) (xs := ts.map V.ref)) fun D hD => ?_
    refine ⟨fun i H' => Ext H H' ∧ ∃ us : List Addr, H' D = some (.lst (us.map V.ref)) ∧ us.length ≤ i ∧ Paired (LkIn H') us (cutL kvs (ls.take i)), ⟨Ext.upd hD, [], upd_same, Nat.le_refl _, .nil⟩, fun i H' _ h => hp.ext h.1, ?_, ?_⟩
    · rintro i x H1 H2 hi ⟨e1, us, fD, hul, hU⟩ ⟨rfl, hx⟩
      rw [List.length_map] at hi
      obtain ⟨t, hti, rfl⟩ : ∃ t, ts[i]? = some t ∧ x = V.ref t := by
        rw [List.getElem?_map] at hx
        cases e : ts[i]? with
        | none => rw [e] at hx; cases hx
        | some t => rw [e] at hx; exact ⟨t, rfl, (Option.some.inj hx).symm⟩
      obtain ⟨l, hli, ht⟩ := LiI.paired_get hT hti
      have ht2 : H2 t = some (.tup (lkV l)) := e1 _ _ ht
      refine ⟨rfl, ?_⟩
      have ew : (wipe [some (V.ref p), some (V.ref s), none] (List.map (fun x => x.snd) [((Str.ofString "link" : Str), 2)])) = [some (V.ref p), some (V.ref s), none] := rfl
      simp only [ew, tDNewK, tDIn, tDNotIn, tDGet, sDPut, rIxL, rIxT, rEq, rNe, rIsi, sFld, rSlL, rIn, rEqD, tYes, tCallN, tSeq, tIfS, tOp, tVar, tC, tCB, tCons, tNil, rI0, rI, tTest, tRet, tRetN, tNext, tAsg, gName, gNil, gCons, gTup, gUnl, tLst, tTup, tCall, tMeth, tMake, tUn, rU, tAndV, tOrV, tNotV, tAnd, tOr, tNot, tIf, tB, tFld, tDrop, tPar, tNever, tBM, rAppend, tSl, tPart, tNoPart, tM1, tyLst, List.getElem?_cons_zero, List.getElem?_cons_succ, Option.some.injEq, exists_eq_left', exists_eq_left, V.int.injEq, V.bl.injEq, V.str.injEq, V.ref.injEq, List.set_cons_zero, List.set_cons_succ, exists_and_left, exists_and_right, and_assoc, List.cons.injEq, and_true, true_and, List.cons_append, List.nil_append, List.append_nil, List.length_cons, List.length_nil, exists_eq', exists_eq, exists_const, exists_eq_right, exists_eq_right', cxK, Cx.nox, Cx.wish]
      refine ⟨t, s, kvs, _, _, _, _, _, rfl, ofT ht2, e1 _ _ hs, hI, _, rfl, ?_⟩
      have hsn : cutL kvs (ls.take (i + 1)) = cutL kvs (ls.take i) ++ (if innerL kvs l = true then [] else [l]) := by
        unfold cutL
        rw [take_snoc hli, List.filter_append]
        congr 1
        rw [List.filter_cons]
        cases innerL kvs l <;> rfl
      show if (!innerL kvs l) = true then _ else _
      cases hin : innerL kvs l with
      | true =>
        rw [hin] at hsn
        refine iteF ⟨e1, us, fD, by omega, ?_⟩
        rw [hsn]
        simpa using hU
      | false =>
        rw [hin] at hsn
        have oD : Off D H2 (upd H2 D (.lst (us.map V.ref ++ [V.ref t]))) := Off.upd
        refine iteT ⟨_, fD, by rw [List.length_map]; omega, upd_ext e1 hD, us ++ [t], by rw [upd_same, List.map_append]; rfl, by rw [List.length_append]; exact Nat.succ_le_succ hul, ?_⟩
        rw [hsn]
        exact lk_off (Paired.snoc hU ht2) fD (fun _ z => by cases z) oD
    · rintro H1 ⟨e1, us, fD, _, hU⟩
      rw [List.take_of_length_le (by rw [List.length_map]; omega)] at hU
      refine ⟨D, rfl, _, .inl ⟨ofL fD, fun q hq => ?_⟩⟩
      exact k q _ (e1.trans (Ext.upd hq)) ⟨us, ofT upd_same, lk_ext hU (Ext.upd hq)⟩
/-- what so many pieces cost by the last link -/
def costL (c : Int) (ls : List Lk) : List (Str × Rat) := match ls.getLast? with
  | none => []
  | some l => [(l.c, Rat.divInt (c * l.pr) l.m)]
theorem costL_nil {c : Int} : costL c [] = [] := rfl
theorem costL_some {c : Int} {ls : List Lk} {l : Lk} (h : ls.getLast? = some l) : costL c ls = [(l.c, Rat.divInt (c * l.pr) l.m)] := by
  unfold costL
  rw [h]
theorem atI_last {α : Type} {xs : List α} {x : α} (h : xs.getLast? = some x) : atI xs (-1) = some x := by
  rw [List.getLast?_eq_getElem?] at h
  have hl := (List.getElem?_eq_some_iff.mp h).1
  unfold atI ixN
  rw [if_neg (by omega), if_pos (by omega)]
  show xs[((-1 : Int) + (xs.length : Int)).toNat]? = some x
  rw [show ((-1 : Int) + (xs.length : Int)).toNat = xs.length - 1 by omega]
  exact h
def spCostLast (K : PySem.W.Frag) (C CP : Addr) : Sp := fun vs H Q _ => ∃ (c : Int) (p : Addr) (ls : List Lk), vs = [.int c, .ref p] ∧ PathAt K H p ls ∧ c.natAbs < 2 ^ 60 ∧ (∀ l ∈ ls, LkOk l) ∧
  ∀ q d hs H', Ext H H' → H d = none → Canon hs → (∀ n, val hs n = val (costL c ls) n) → PurD C CP H' q d hs → Q (.ref q) H'
theorem cost_sz {c : Int} {l : Lk} (hc : c.natAbs < 2 ^ 60) (h : LkOk l) : Sz (Rat.divInt (c * l.pr) l.m) 120 := Sz.of h.m0 (mul_lt 60 60 hc h.pr) (Nat.lt_of_lt_of_le h.m (Nat.pow_le_pow_right (by decide) (by decide)))
theorem ok_cost_by_last (T : Tx a K mg w) : FnOk P w K mg base CX0 6 a.f_cost_by_last a.d_cost_by_last ps_cost_by_last (spCostLast K a.C_Purse a.C_Part) := by
  refine T.F_cost_by_last.ok sc_cost_by_last (fun vs H Q E h => ?_) (fun cdv A outer s H vs Q E hr h => ?_)
  · obtain ⟨c, p, ls, rfl, _⟩ := h
    rfl
  · obtain ⟨c, p, ls, rfl, ⟨ts, hp, hT⟩, hc, hok, k⟩ := h
    have G_Part_init := ok_Part_init (P := P) (w := w) (base := base) T
    obtain ⟨_, D_Part_init_1, B_Part_init_1⟩ := bnd_Part_init_1 T
    obtain ⟨_, D_Part_init_2, B_Part_init_2⟩ := bnd_Part_init_2 T
    have hr_Part_init : Room 1 _ := hr.mono (by decide)
    have hr1_Part_init : Room 2 _ := hr.mono (by decide)
    have G_Purse_init := ok_Purse_init (P := P) (w := w) (base := base) T
    obtain ⟨_, D_Purse_init_0, B_Purse_init_0⟩ := bnd_Purse_init_0 T
    obtain ⟨_, D_Purse_init_1, B_Purse_init_1⟩ := bnd_Purse_init_1 T
    have hr_Purse_init : Room 4 _ := hr.mono (by decide)
    have hr1_Purse_init : Room 5 _ := hr.mono (by decide)
    refine ⟨_, (pss_cons (ps_if (pt_cmpR op_eq (pe_callB call_len_seq (by rfl) T.no_len (by decide +kernel) (pa_cons (pv 1) pa_nil)) pe_int (nomark _)) (pss_one (ps_ret (pe_make0 T.mk_Purse G_Purse_init hr1_Purse_init (by rfl) T.mg_Purse B_Purse_init_0 D_Purse_init_0 pass0))) pss_nil)
      (pss_cons (ps_asg (pe_slice sl_tupA (pe_ix ix_tup (pv 1) (pe_un un_neg pe_int) (fun _ _ => rfl)) (po_some pe_int) po_none) (pg_tup rfl (pgs_cons (pg_name (i := 2) sc_cost_by_last.nd rfl (by first | exact Or.inl rfl | exact Or.inr rfl)) (pgs_cons (pg_name (i := 3) sc_cost_by_last.nd rfl (by first | exact Or.inl rfl | exact Or.inr rfl)) (pgs_cons (pg_name (i := 4) sc_cost_by_last.nd rfl (by first | exact Or.inl rfl | exact Or.inr rfl)) pgs_nil))) (by rfl)))
      (pss_one (ps_ret (pe_make T.mk_Purse G_Purse_init hr1_Purse_init (by rfl) T.mg_Purse B_Purse_init_1 D_Purse_init_1 pass0 (pa_cons (pe_lst (pa_cons (pe_tup (pa_cons (pv 2) (pa_cons (pe_make T.mk_Part G_Part_init hr1_Part_init (by rfl) T.mg_Part B_Part_init_2 D_Part_init_2 pass0 (pa_cons (pe_op op_mulW (pv 0) (pv 3)) (pa_cons (pv 4) pa_nil))) pa_nil))) pa_nil)) pa_nil)))))), ?_⟩
    show tSeq _ _ _ [some (V.int c), some (V.ref p), none, none, none] H
    have htl : ts.length = ls.length := Paired.length hT
    refine seq_i fun N hN => ?_
    simp only [tDNewK, tDIn, tDNotIn, tDGet, sDPut, rIxL, rIxT, rEq, rNe, rIsi, sFld, rSlL, rIn, rEqD, tYes, tCallN, tSeq, tIfS, tOp, tVar, tC, tCB, tCons, tNil, rI0, rI, tTest, tRet, tRetN, tNext, tAsg, gName, gNil, gCons, gTup, gUnl, tLst, tTup, tCall, tMeth, tMake, tUn, rU, tAndV, tOrV, tNotV, tAnd, tOr, tNot, tIf, tB, tFld, tDrop, tPar, tNever, tBM, rAppend, tSl, tPart, tNoPart, tM1, tyLst, List.getElem?_cons_zero, List.getElem?_cons_succ, Option.some.injEq, exists_eq_left', exists_eq_left, V.int.injEq, V.bl.injEq, V.str.injEq, V.ref.injEq, List.set_cons_zero, List.set_cons_succ, exists_and_left, exists_and_right, and_assoc, List.cons.injEq, and_true, true_and, List.cons_append, List.nil_append, List.append_nil, List.length_cons, List.length_nil, exists_eq', exists_eq, exists_const, exists_eq_right, exists_eq_right', cxK, Cx.nox, Cx.wish]
    refine ⟨_, .inr hp, rfl, ite2 (fun h0 => ?_) (fun h0 => hN _ _ ?_)⟩
    · have h0 : ls = [] := by
        have h0 : ((ts.map V.ref).length : Int) = 0 := by
          exact of_decide_eq_true h0
        rw [List.length_map, htl] at h0
        exact List.length_eq_zero_iff.mp (by omega)
      subst h0
      intro x dx hx hdx hne
      have eU : Ext H (upd (upd H dx (.own x)) x (.ins a.C_Purse dx [])) := upd_ext (Ext.upd hdx) hx
      refine ⟨x, dx, a.t_rows, [], [], 0, rfl, upd_same, .inr (T.sq_t_rows.sq _), .nil, fun e he => absurd he List.not_mem_nil, by decide, by decide, fun H' hs d hcan hval hkeep hd hP => ⟨rfl, ?_⟩⟩
      exact k x d hs H' (fun b o hb => hkeep b o (eU _ _ hb) (ne_of_none hb hx)) (none_upd (none_upd hd)) hcan hval hP
    · clear hN N
      have hne : ls ≠ [] := fun z => by
        subst z
        have : ts = [] := List.length_eq_zero_iff.mp htl
        subst this
        exact h0 rfl
      obtain ⟨l, hl⟩ : ∃ l, ls.getLast? = some l := ⟨ls.getLast hne, List.getLast?_eq_some_getLast hne⟩
      have hlm := List.mem_of_getLast? hl
      have hlo := hok l hlm
      obtain ⟨t, ht, hlt⟩ : ∃ t, ts.getLast? = some t ∧ LkIn H t l := by
        have i1 := List.getLast?_eq_getElem? (l := ls)
        have i2 := List.getLast?_eq_getElem? (l := ts)
        rw [hl] at i1
        cases e : ts[ts.length - 1]? with
        | none =>
          have := List.getElem?_eq_none_iff.mp e
          have : ls.length ≠ 0 := fun z => hne (List.length_eq_zero_iff.mp z)
          omega
        | some t =>
          obtain ⟨l2, h1, h2⟩ := LiI.paired_get hT e
          rw [htl, ← i1] at h1
          cases h1
          exact ⟨t, by rw [i2, e], h2⟩
      have hat := atI_map (f := V.ref) (atI_last ht)
      have hlt : H t = some (.tup (lkV l)) := hlt
      refine seq_i fun N hN => ?_
      simp only [rSlA, tDNewK, tDIn, tDNotIn, tDGet, sDPut, rIxL, rIxT, rEq, rNe, rIsi, sFld, rSlL, rIn, rEqD, tYes, tCallN, tSeq, tIfS, tOp, tVar, tC, tCB, tCons, tNil, rI0, rI, tTest, tRet, tRetN, tNext, tAsg, gName, gNil, gCons, gTup, gUnl, tLst, tTup, tCall, tMeth, tMake, tUn, rU, tAndV, tOrV, tNotV, tAnd, tOr, tNot, tIf, tB, tFld, tDrop, tPar, tNever, tBM, rAppend, tSl, tPart, tNoPart, tM1, tyLst, List.getElem?_cons_zero, List.getElem?_cons_succ, Option.some.injEq, exists_eq_left', exists_eq_left, V.int.injEq, V.bl.injEq, V.str.injEq, V.ref.injEq, List.set_cons_zero, List.set_cons_succ, exists_and_left, exists_and_right, and_assoc, List.cons.injEq, and_true, true_and, List.cons_append, List.nil_append, List.append_nil, List.length_cons, List.length_nil, exists_eq', exists_eq, exists_const, exists_eq_right, exists_eq_right', cxK, Cx.nox, Cx.wish]
      have nw : ¬ (HT.sIx (lkV l).length 0 (some 4) = 0 ∧ HT.sIx (lkV l).length (lkV l).length none = (lkV l).length) := by
        show ¬ (HT.sIx 7 0 (some 4) = 0 ∧ HT.sIx 7 7 none = 7)
        decide
      have ec : cutV (lkV l) (some 4) none = [.str l.c, .int l.pr, .int l.m] := rfl
      refine ⟨_, hp, _, hat, t, rfl, _, ofT hlt, fun z => absurd z nw, fun _ p1 hp1 => ?_⟩
      rw [ec]
      generalize hE : upd H p1 _ = H1
      obtain ⟨e1, f1⟩ := alloc hp1 hE
      refine ⟨_, ofT f1, rfl, _, _, rfl, _, _, rfl, _, _, rfl, rfl, hN _ _ ?_⟩
      clear hN N hE
      simp only [tDNewK, tDIn, tDNotIn, tDGet, sDPut, rIxL, rIxT, rEq, rNe, rIsi, sFld, rSlL, rIn, rEqD, tYes, tCallN, tSeq, tIfS, tOp, tVar, tC, tCB, tCons, tNil, rI0, rI, tTest, tRet, tRetN, tNext, tAsg, gName, gNil, gCons, gTup, gUnl, tLst, tTup, tCall, tMeth, tMake, tUn, rU, tAndV, tOrV, tNotV, tAnd, tOr, tNot, tIf, tB, tFld, tDrop, tPar, tNever, tBM, rAppend, tSl, tPart, tNoPart, tM1, tyLst, List.getElem?_cons_zero, List.getElem?_cons_succ, Option.some.injEq, exists_eq_left', exists_eq_left, V.int.injEq, V.bl.injEq, V.str.injEq, V.ref.injEq, List.set_cons_zero, List.set_cons_succ, exists_and_left, exists_and_right, and_assoc, List.cons.injEq, and_true, true_and, List.cons_append, List.nil_append, List.append_nil, List.length_cons, List.length_nil, exists_eq', exists_eq, exists_const, exists_eq_right, exists_eq_right', cxK, Cx.nox, Cx.wish]
      have hcp := mul_lt 60 60 hc hlo.pr
      refine ⟨mulW64 (Nat.lt_trans hc (by decide)) (Nat.lt_trans hlo.pr (by decide)), fun x dx hx hdx _ => ?_⟩
      refine mk_partR hx hdx hlo.m0 (Nat.lt_of_lt_of_le hcp (Nat.pow_le_pow_right (by decide) (by decide))) (Nat.lt_of_lt_of_le hlo.m (Nat.pow_le_pow_right (by decide) (by decide))) fun H2 e2 P2 => ⟨rfl, by decide, fun p3 hp3 => ?_⟩
      generalize hE : upd H2 p3 _ = H3
      obtain ⟨e3, f3⟩ := alloc hp3 hE
      refine ⟨by decide, fun p4 hp4 => ?_⟩
      generalize hE2 : upd H3 p4 _ = H4
      obtain ⟨e4, f4⟩ := alloc hp4 hE2
      intro y dy hy hdy hne
      have e04 : Ext H H4 := e1.trans (e2.trans (e3.trans e4))
      have eU : Ext H4 (upd (upd H4 dy (.own y)) y (.ins a.C_Purse dy [])) := upd_ext (Ext.upd hdy) hy
      have hrow : Paired (RowP a.C_Part H4) [p3] (costL c ls) := by
        rw [costL_some hl]
        exact .cons ⟨x, e4 _ _ f3, P2.ext (e3.trans e4)⟩ .nil
      have hlen : (costL c ls).length = 1 := by rw [costL_some hl]; rfl
      refine ⟨y, dy, p4, [p3], costL c ls, 120, rfl, upd_same, .inl (ofL (eU _ _ f4)), rowP_ext hrow eU, fun e he => ?_, by rw [hlen]; decide, by rw [hlen]; decide, fun H' hs d hcan hval hkeep hd hP => ⟨rfl, ?_⟩⟩
      · rw [costL_some hl] at he
        rw [List.mem_singleton.mp he]
        exact cost_sz hc hlo
      · exact k y d hs H' (fun b o hb => hkeep b o (eU _ _ (e04 _ _ hb)) (ne_of_none (e04 _ _ hb) hy)) (none_back e04 (none_upd (none_upd hd))) hcan hval hP
def spCost (K : PySem.W.Frag) (C CP : Addr) : Sp := fun vs H Q _ => ∃ (c : Int) (p : Addr) (s : V) (kvs : List (Key × V)) (ls : List Lk), vs = [.int c, .ref p, s] ∧ PathAt K H p ls ∧ ((s = .non ∧ kvs = []) ∨ ∃ sd, s = .ref sd ∧ H sd = some (.dK kvs)) ∧ AllV IsI kvs ∧ ls.length ≤ 1000 ∧ c.natAbs < 2 ^ 60 ∧ (∀ l ∈ ls, LkOk l) ∧
  ∀ q d hs H', Ext H H' → H d = none → Canon hs → (∀ n, val hs n = val (costL c (cutL kvs ls)) n) → PurD C CP H' q d hs → Q (.ref q) H'
theorem ok_cost (T : Tx a K mg w) : FnOk P w K mg base CX0 7 a.f_cost a.d_cost ps_cost (spCost K a.C_Purse a.C_Part) := by
  refine okD T.F_cost sc_cost (fun vs H Q E h => ?_) (fun cdv A outer s H vs Q E hr h => ?_)
  · obtain ⟨c, p, s, kvs, ls, rfl, _⟩ := h
    rfl
  · obtain ⟨c, p, s, kvs, ls, rfl, hP, hs, hI, hln, hc, hok, k⟩ := h
    have G_cut := ok_cut (P := P) (w := w) (base := base) T
    have B_cut := bnd_cut T
    have hr_cut : Room 3 _ := hr.mono (by decide)
    have G_cost_by_last := ok_cost_by_last (P := P) (w := w) (base := base) T
    have B_cost_by_last := bnd_cost_by_last T
    have hr_cost_by_last : Room 6 _ := hr.mono (by decide)
    refine ⟨_, (pss_one (ps_ret (pe_call G_cost_by_last hr_cost_by_last (by rfl) T.mg_cost_by_last T.F_cost_by_last.kp B_cost_by_last .nil pass0 (pa_cons (pv 0) (pa_cons (pe_call G_cut hr_cut (by rfl) T.mg_cut T.F_cut.kp B_cut .nil pass0 (pa_cons (pv 1) (pa_cons (pe_ifExp (pt_cmpR op_isN (pv 2) pe_non (nomark _)) pe_dnewK (pv 2)) pa_nil))) pa_nil))))), ?_⟩
    show tRet _ _ [some (V.int c), some (V.ref p), some s] H
    have fin : ∀ (H1 : Hp) (sd : Addr), Ext H H1 → H1 sd = some (.dK kvs) → spCut K [.ref p, .ref sd] H1 (fun v H2 => spCostLast K a.C_Purse a.C_Part [.int c, v] H2 Q E0) E0 := fun H1 sd e1 h1 =>
      ⟨p, sd, kvs, ls, rfl, hP.ext e1, h1, hI, hln, fun q H2 e2 h2 => ⟨c, q, _, rfl, h2, hc, fun l hl => hok l (List.mem_filter.mp hl).1, fun r d hs H3 e3 hd => k r d hs H3 (e1.trans (e2.trans e3)) (none_back (e1.trans e2) hd)⟩⟩
    simp only [rIsN, tDNewK, tDIn, tDNotIn, tDGet, sDPut, rIxL, rIxT, rEq, rNe, rIsi, sFld, rSlL, rIn, rEqD, tYes, tCallN, tSeq, tIfS, tOp, tVar, tC, tCB, tCons, tNil, rI0, rI, tTest, tRet, tRetN, tNext, tAsg, gName, gNil, gCons, gTup, gUnl, tLst, tTup, tCall, tMeth, tMake, tUn, rU, tAndV, tOrV, tNotV, tAnd, tOr, tNot, tIf, tB, tFld, tDrop, tPar, tNever, tBM, rAppend, tSl, tPart, tNoPart, tM1, tyLst, List.getElem?_cons_zero, List.getElem?_cons_succ, Option.some.injEq, exists_eq_left', exists_eq_left, V.int.injEq, V.bl.injEq, V.str.injEq, V.ref.injEq, List.set_cons_zero, List.set_cons_succ, exists_and_left, exists_and_right, and_assoc, List.cons.injEq, and_true, true_and, List.cons_append, List.nil_append, List.append_nil, List.length_cons, List.length_nil, exists_eq', exists_eq, exists_const, exists_eq_right, exists_eq_right', cxK, Cx.nox, Cx.wish]
    rcases hs with ⟨rfl, rfl⟩ | ⟨sd, rfl, hsd⟩
    · refine iteT fun sd hsd => ?_
      exact fin _ sd (Ext.upd hsd) upd_same
    · exact iteF (fin H sd (Ext.refl' _) hsd)

end
end My

set_option Elab.async false
set_option maxRecDepth 100000
set_option maxHeartbeats 4000000
set_option linter.all false
namespace My
open PySem L2 Own
section
variable {P : Program} {w : World} {K : PySem.W.Frag} {mg : Str → Option Value} {base : Heap} {a : Adr}
/-! ### _law_inner, _law_since, _law_path, _law_cost -/
theorem small_e : Small (Str.ofString "") 6 := ⟨by decide +kernel, by decide +kernel⟩
theorem small_x : Small (Str.ofString "x") 6 := ⟨by decide +kernel, by decide +kernel⟩
theorem small_y : Small (Str.ofString "y") 6 := ⟨by decide +kernel, by decide +kernel⟩
theorem Good.small {zs : List Str} (h : Good zs) {z : Str} (hz : z ∈ zs) : Small z 6 := by
  obtain ⟨k, h1, _, h2⟩ := h.each z hz
  exact h1.small.mono h2
theorem Good.ne {zs : List Str} (h : Good zs) {z : Str} (hz : z ∈ zs) : z ≠ Str.ofString "" := fun e => by
  obtain ⟨k, h1, h2, _⟩ := h.each z hz
  rw [e] at h1
  have := h1.len
  have e0 : (Str.ofString "").length = 0 := by decide +kernel
  omega
theorem tyLst' {H : Hp} {p : Addr} {xs : List V} (h : SqL K H p xs) : tyV K "list" (.ref p) H := .inl ⟨rfl, _, h⟩
theorem name_idx {zs : List Str} {z : Str} (nd : zs.Nodup) (h : z ∈ zs) : ∃ j : Nat, zs[j]? = some z ∧ ∀ (m : Nat) (w : V), m < j → (zs.map V.str)[m]? = some w → eqV w (V.str z) = false := by
  obtain ⟨j, hj⟩ := List.mem_iff_getElem?.mp h
  refine ⟨j, hj, fun m w hm hw => ?_⟩
  rw [List.getElem?_map] at hw
  cases e : zs[m]? with
  | none => rw [e] at hw; cases hw
  | some y =>
    rw [e] at hw
    obtain rfl : w = V.str y := (Option.some.inj hw).symm
    have hne : y ≠ z := fun ez => by
      obtain ⟨hjl, e1⟩ := List.getElem?_eq_some_iff.mp hj
      obtain ⟨hml, e2⟩ := List.getElem?_eq_some_iff.mp e
      exact List.pairwise_iff_getElem.mp (List.nodup_iff_pairwise_ne.mp nd) m j hml hjl hm (e2.trans (ez.trans e1.symm))
    simp [eqV, hne]
def spLInner : Sp := fun vs H Q _ => ∃ (t s : Addr) (kvs : List (Key × V)) (l : Lk), vs = [.ref t, .ref s] ∧ LkIn H t l ∧ H s = some (.dK kvs) ∧ AllV IsI kvs ∧ Q (.bl (innerL kvs l)) H
theorem ok_l_inner (T : Tx a K mg w) : FnOk P w K mg base CX0 1 a.f_l_inner a.d_l_inner ps_l_inner spLInner := by
  refine T.F_l_inner.ok sc_l_inner (fun vs H Q E h => ?_) (fun cdv A outer s H vs Q E hr h => ?_)
  · obtain ⟨t, s, kvs, l, rfl, _⟩ := h
    rfl
  · obtain ⟨t, s, kvs, l, rfl, ht, hs, hI, q⟩ := h
    have hu := hu_of hr
    refine ⟨_, (pss_cons (ps_if (PW.pt (pw_or (pt_cmp (pc_dnotin hu (pe_ix ix_tup (pv 0) pe_int (fun _ _ => rfl)) (pv 1))) (pw_or1 (pt_cmp (pc_dnotin hu (pe_ix ix_tup (pv 0) pe_int (fun _ _ => rfl)) (pv 1)))))) (pss_one (ps_ret pe_bl)) pss_nil)
      (pss_one (ps_ret (pe_and (pe_cmpR op_le (pe_dget hu (pv 1) (pe_ix ix_tup (pv 0) pe_int (fun _ _ => rfl)) (fun _ _ => rfl)) (pe_ix ix_tup (pv 0) pe_int (fun _ _ => rfl)) (nomark _)) (pe_one (pe_cmpR op_le (pe_dget hu (pv 1) (pe_ix ix_tup (pv 0) pe_int (fun _ _ => rfl)) (fun _ _ => rfl)) (pe_ix ix_tup (pv 0) pe_int (fun _ _ => rfl)) (nomark _))))))), ?_⟩
    show tSeq _ _ _ [some (V.ref t), some (V.ref s)] H
    have ht : SqT K H t (lkV l) := ofT ht
    have a1 : atI (lkV l) 1 = some (V.int l.day) := Own.atI_nat (j := 1) rfl
    have a2 : atI (lkV l) 2 = some (V.str l.g) := Own.atI_nat (j := 2) rfl
    have a3 : atI (lkV l) 3 = some (V.str l.t) := Own.atI_nat (j := 3) rfl
    have gg : DGet H s (.str l.g) (valV kvs (Sum.inr l.g)) := DGet.k (k := Sum.inr l.g) hs
    have gt : DGet H s (.str l.t) (valV kvs (Sum.inr l.t)) := DGet.k (k := Sum.inr l.t) hs
    unfold innerL at q
    refine seq_i fun N hN => ?_
    simp only [tDNewK, tDIn, tDNotIn, tDGet, sDPut, rIxL, rIxT, rEq, rNe, rIsi, sFld, rSlL, rIn, rEqD, tYes, tCallN, tSeq, tIfS, tOp, tVar, tC, tCB, tCons, tNil, rI0, rI, tTest, tRet, tRetN, tNext, tAsg, gName, gNil, gCons, gTup, gUnl, tLst, tTup, tCall, tMeth, tMake, tUn, rU, tAndV, tOrV, tNotV, tAnd, tOr, tNot, tIf, tB, tFld, tDrop, tPar, tNever, tBM, rAppend, tSl, tPart, tNoPart, tM1, tyLst, List.getElem?_cons_zero, List.getElem?_cons_succ, Option.some.injEq, exists_eq_left', exists_eq_left, V.int.injEq, V.bl.injEq, V.str.injEq, V.ref.injEq, List.set_cons_zero, List.set_cons_succ, exists_and_left, exists_and_right, and_assoc, List.cons.injEq, and_true, true_and, List.cons_append, List.nil_append, List.append_nil, List.length_cons, List.length_nil, exists_eq', exists_eq, exists_const, exists_eq_right, exists_eq_right', cxK, Cx.nox, Cx.wish]
    refine ⟨_, ht, _, a2, _, gg, ?_⟩
    cases eg : valV kvs (Sum.inr l.g) with
    | none =>
      rw [underD_none eg, Bool.false_and] at q
      exact (if_pos rfl).mpr ((if_pos trivial).mpr q)
    | some v =>
      obtain ⟨x, rfl⟩ := hI.val eg
      rw [underD_some eg] at q
      refine iteF ⟨_, ht, _, a3, _, gt, ?_⟩
      cases et : valV kvs (Sum.inr l.t) with
      | none =>
        rw [underD_none et, Bool.and_false] at q
        exact iteT q
      | some v =>
        obtain ⟨y, rfl⟩ := hI.val et
        rw [underD_some et] at q
        refine iteF (hN _ _ ?_)
        simp only [tDNewK, tDIn, tDNotIn, tDGet, sDPut, rIxL, rIxT, rEq, rNe, rIsi, sFld, rSlL, rIn, rEqD, tYes, tCallN, tSeq, tIfS, tOp, tVar, tC, tCB, tCons, tNil, rI0, rI, tTest, tRet, tRetN, tNext, tAsg, gName, gNil, gCons, gTup, gUnl, tLst, tTup, tCall, tMeth, tMake, tUn, rU, tAndV, tOrV, tNotV, tAnd, tOr, tNot, tIf, tB, tFld, tDrop, tPar, tNever, tBM, rAppend, tSl, tPart, tNoPart, tM1, tyLst, List.getElem?_cons_zero, List.getElem?_cons_succ, Option.some.injEq, exists_eq_left', exists_eq_left, V.int.injEq, V.bl.injEq, V.str.injEq, V.ref.injEq, List.set_cons_zero, List.set_cons_succ, exists_and_left, exists_and_right, and_assoc, List.cons.injEq, and_true, true_and, List.cons_append, List.nil_append, List.append_nil, List.length_cons, List.length_nil, exists_eq', exists_eq, exists_const, exists_eq_right, exists_eq_right', cxK, Cx.nox, Cx.wish]
        refine ⟨_, ht, _, a2, _, eg ▸ gg, _, ht, _, a1, x, rfl, _, rfl, ?_⟩
        by_cases hx : x ≤ l.day
        · rw [decide_eq_true hx, Bool.true_and] at q
          rw [decide_eq_true hx]
          exact iteT ⟨_, ht, _, a3, _, et ▸ gt, _, ht, _, a1, y, rfl, _, rfl, q⟩
        · rw [decide_eq_false hx, Bool.false_and] at q
          rw [decide_eq_false hx]
          exact iteF q
def spSince (K : PySem.W.Frag) : Sp := fun vs H Q _ => ∃ (l pn : Addr) (ns : List Int) (k : Int) (zs : List Str), vs = [.ref l, .int k, .ref pn] ∧ SqL K H l (ns.map V.int) ∧ ns.length ≤ 63 ∧ 0 ≤ k ∧ k < 900000 ∧ SqL K H pn (zs.map V.str) ∧ zs.length = 5 ∧
  ∀ (d : Addr) (kvs : List (Key × V)) H', Ext H H' → H d = none → H' d = some (.dK kvs) → Uniq kvs → AllV IsI kvs → kvs.length ≤ 5 → (∀ p ∈ kvs, ∃ z ∈ zs, p.1 = Sum.inr z) → Q (.ref d) H'
theorem ok_l_since (T : Tx a K mg w) : FnOk P w K mg base CX0 3 a.f_l_since a.d_l_since ps_l_since (spSince K) := by
  refine T.F_l_since.ok sc_l_since (fun vs H Q E h => ?_) (fun cdv A outer s H vs Q E hr h => ?_)
  · obtain ⟨l, pn, ns, k, zs, rfl, _⟩ := h
    rfl
  · obtain ⟨l, pn, ns, k, zs, rfl, hs, hn, h0, h1, hz, hzl, q⟩ := h
    have hu := hu_of hr
    have G_l_digits := ok_l_digits (P := P) (w := w) (base := base) T
    have B_l_digits := bnd_l_digits T
    have hr_l_digits : Room 2 _ := hr.mono (by decide)
    refine ⟨_, (pss_cons (ps_set (i := 3) sc_l_since.nd rfl (by first | exact Or.inl rfl | exact Or.inr rfl) pe_dnewK)
      (pss_cons (ps_for PassesOwn.never rfl (pi_range1 rfl T.no_range (pa_cons pe_int pa_nil)) (pg_name (i := 4) sc_l_since.nd rfl (by first | exact Or.inl rfl | exact Or.inr rfl))
        (pss_cons (ps_asg (pe_call G_l_digits hr_l_digits (by rfl) T.mg_l_digits T.F_l_digits.kp B_l_digits .nil pass0 (pa_cons (pv 0) (pa_cons (pe_op op_add (pv 1) (pe_op op_mod (pv 4) pe_int)) (pa_cons (pe_lst (pa_cons pe_int (pa_cons pe_int pa_nil))) pa_nil)))) (pg_unl rfl (pgs_cons (pg_name (i := 5) sc_l_since.nd rfl (by first | exact Or.inl rfl | exact Or.inr rfl)) (pgs_cons (pg_name (i := 6) sc_l_since.nd rfl (by first | exact Or.inl rfl | exact Or.inr rfl)) pgs_nil)) (by rfl)))
        (pss_one (ps_if (pt_cmpR op_gt (pe_op op_mod (pe_op op_add (pv 5) (pv 4)) pe_int) pe_int (nomark _)) (pss_one (ps_dput hu (pv 3) (pe_ix ix_list (pv 2) (pv 4) (fun _ _ => rfl)) (pe_ix ix_list (pe_lst (pa_cons pe_int (pa_cons (pv 6) (pa_cons (pe_op op_mod (pe_op op_add (pv 6) (pv 4)) pe_int) pa_nil)))) (pv 5) (fun _ _ => rfl)) rfl)) pss_nil))))
      (pss_one (ps_ret (pv 3))))), ?_⟩
    show tSeq _ _ _ [some (V.ref l), some (V.int k), some (V.ref pn), none, none, none, none] H
    have hz16 : sizeLine = 16777216 := rfl
    refine seq_i fun N hN => ?_
    simp only [tDNewK, tDIn, tDNotIn, tDGet, sDPut, rIxL, rIxT, rEq, rNe, rIsi, sFld, rSlL, rIn, rEqD, tYes, tCallN, tSeq, tIfS, tOp, tVar, tC, tCB, tCons, tNil, rI0, rI, tTest, tRet, tRetN, tNext, tAsg, gName, gNil, gCons, gTup, gUnl, tLst, tTup, tCall, tMeth, tMake, tUn, rU, tAndV, tOrV, tNotV, tAnd, tOr, tNot, tIf, tB, tFld, tDrop, tPar, tNever, tBM, rAppend, tSl, tPart, tNoPart, tM1, tyLst, List.getElem?_cons_zero, List.getElem?_cons_succ, Option.some.injEq, exists_eq_left', exists_eq_left, V.int.injEq, V.bl.injEq, V.str.injEq, V.ref.injEq, List.set_cons_zero, List.set_cons_succ, exists_and_left, exists_and_right, and_assoc, List.cons.injEq, and_true, true_and, List.cons_append, List.nil_append, List.append_nil, List.length_cons, List.length_nil, exists_eq', exists_eq, exists_const, exists_eq_right, exists_eq_right', cxK, Cx.nox, Cx.wish]
    intro d hd
    generalize hE : upd H d _ = H1
    obtain ⟨e1, f1⟩ := alloc hd hE
    refine hN _ _ ?_
    clear hN N hE
    refine seq_i fun N hN => ?_
    refine for_rangeI (n := 5) (fun R r => r) (by decide) (by decide) (fun j σ H' => (∃ v4 v5 v6, σ = [some (V.ref l), some (V.int k), some (V.ref pn), some (V.ref d), v4, v5, v6]) ∧ Ext H H' ∧ ∃ kvs, H' d = some (.dK kvs) ∧ Uniq kvs ∧ AllV IsI kvs ∧ kvs.length ≤ j ∧ ∀ p ∈ kvs, ∃ z ∈ zs, p.1 = Sum.inr z)
      ⟨⟨_, _, _, rfl⟩, e1, [], f1, Uniq.nil, AllV.nil, Nat.le_refl _, fun p hp => absurd hp List.not_mem_nil⟩ ?_ ?_
    · rintro j σ H2 hj ⟨⟨v4, v5, v6, rfl⟩, e2, kvs, f2, hU, hI, hl, hk⟩
      have hj : j < 5 := hj
      clear hN
      show tSeq _ _ _ [some (V.ref l), some (V.int k), some (V.ref pn), some (V.ref d), some (V.int (0 + (j : Int))), v5, v6] H2
      refine seq_i fun N2 hN2 => ?_
      simp only [tDNewK, tDIn, tDNotIn, tDGet, sDPut, rIxL, rIxT, rEq, rNe, rIsi, sFld, rSlL, rIn, rEqD, tYes, tCallN, tSeq, tIfS, tOp, tVar, tC, tCB, tCons, tNil, rI0, rI, tTest, tRet, tRetN, tNext, tAsg, gName, gNil, gCons, gTup, gUnl, tLst, tTup, tCall, tMeth, tMake, tUn, rU, tAndV, tOrV, tNotV, tAnd, tOr, tNot, tIf, tB, tFld, tDrop, tPar, tNever, tBM, rAppend, tSl, tPart, tNoPart, tM1, tyLst, List.getElem?_cons_zero, List.getElem?_cons_succ, Option.some.injEq, exists_eq_left', exists_eq_left, V.int.injEq, V.bl.injEq, V.str.injEq, V.ref.injEq, List.set_cons_zero, List.set_cons_succ, exists_and_left, exists_and_right, and_assoc, List.cons.injEq, and_true, true_and, List.cons_append, List.nil_append, List.append_nil, List.length_cons, List.length_nil, exists_eq', exists_eq, exists_const, exists_eq_right, exists_eq_right', cxK, Cx.nox, Cx.wish]
      refine ⟨by decide, by decide, fun pz hpz => ?_⟩
      generalize hH3 : upd H2 pz _ = H3
      obtain ⟨e3, f3⟩ := alloc hpz hH3
      refine ⟨l, pz, ns, [3, 8], _, rfl, seqL hs (e2.trans e3), hn, by omega, by omega, ofL f3, (by decide), (by decide), fun ds pd hdr hpd => ?_⟩
      obtain ⟨here, day, rfl, ⟨a0, a1⟩, ⟨b0, b1⟩⟩ := drawn2 hdr
      generalize hH4 : upd H3 pd _ = H4
      obtain ⟨e4, f4⟩ := alloc hpd hH4
      refine ⟨pd, rfl, _, ofL f4, rfl, ?_⟩
      simp only [List.map_cons, List.map_nil, tDNewK, tDIn, tDNotIn, tDGet, sDPut, rIxL, rIxT, rEq, rNe, rIsi, sFld, rSlL, rIn, rEqD, tYes, tCallN, tSeq, tIfS, tOp, tVar, tC, tCB, tCons, tNil, rI0, rI, tTest, tRet, tRetN, tNext, tAsg, gName, gNil, gCons, gTup, gUnl, tLst, tTup, tCall, tMeth, tMake, tUn, rU, tAndV, tOrV, tNotV, tAnd, tOr, tNot, tIf, tB, tFld, tDrop, tPar, tNever, tBM, rAppend, tSl, tPart, tNoPart, tM1, tyLst, List.getElem?_cons_zero, List.getElem?_cons_succ, Option.some.injEq, exists_eq_left', exists_eq_left, V.int.injEq, V.bl.injEq, V.str.injEq, V.ref.injEq, List.set_cons_zero, List.set_cons_succ, exists_and_left, exists_and_right, and_assoc, List.cons.injEq, and_true, true_and, List.cons_append, List.nil_append, List.append_nil, List.length_cons, List.length_nil, exists_eq', exists_eq, exists_const, exists_eq_right, exists_eq_right', cxK, Cx.nox, Cx.wish]
      refine hN2 _ _ ?_
      clear hN2 N2
      have e24 := e2.trans (e3.trans e4)
      have f24 := e4 _ _ (e3 _ _ f2)
      clear hH3 hH4 hpz hpd f3 f4
      simp only [tDNewK, tDIn, tDNotIn, tDGet, sDPut, rIxL, rIxT, rEq, rNe, rIsi, sFld, rSlL, rIn, rEqD, tYes, tCallN, tSeq, tIfS, tOp, tVar, tC, tCB, tCons, tNil, rI0, rI, tTest, tRet, tRetN, tNext, tAsg, gName, gNil, gCons, gTup, gUnl, tLst, tTup, tCall, tMeth, tMake, tUn, rU, tAndV, tOrV, tNotV, tAnd, tOr, tNot, tIf, tB, tFld, tDrop, tPar, tNever, tBM, rAppend, tSl, tPart, tNoPart, tM1, tyLst, List.getElem?_cons_zero, List.getElem?_cons_succ, Option.some.injEq, exists_eq_left', exists_eq_left, V.int.injEq, V.bl.injEq, V.str.injEq, V.ref.injEq, List.set_cons_zero, List.set_cons_succ, exists_and_left, exists_and_right, and_assoc, List.cons.injEq, and_true, true_and, List.cons_append, List.nil_append, List.append_nil, List.length_cons, List.length_nil, exists_eq', exists_eq, exists_const, exists_eq_right, exists_eq_right', cxK, Cx.nox, Cx.wish]
      refine ⟨by decide, ite2 (fun _ => ?_) (fun _ => ⟨e24, kvs, f24, hU, hI, by omega, hk⟩)⟩
      refine ⟨by decide, by decide, fun pl hpl => ?_⟩
      generalize hH5 : upd H4 pl _ = H5
      obtain ⟨e5, f5⟩ := alloc hpl hH5
      obtain ⟨x, hx, _⟩ := pick3 (P := fun _ => True) (a := 0) (b := day) (c := (day + (0 + (j : Int))) % 6) a0 a1 trivial trivial trivial
      obtain ⟨z, hzm, hat⟩ := str_at (zs := zs) (k := 0 + (j : Int)) (by omega) (by omega)
      refine ⟨_, ofL f5, _, hx, _, seqL hz (e24.trans e5), _, hat, _, DPut.k (k := Sum.inr z) (e5 _ _ f24) (by omega), upd_ext (e24.trans e5) hd, _, upd_same, hU.put _ _, hI.put _ ⟨x, rfl⟩, ?_, fun p hp => ?_⟩
      · have := length_putK kvs (Sum.inr z) (V.int x)
        omega
      · rcases mem_put hp with h | h
        · exact hk p h
        · rw [h]
          exact ⟨z, hzm, rfl⟩
    · rintro σ H2 ⟨⟨v4, v5, v6, rfl⟩, e2, kvs, f2, hU, hI, hl, hk⟩
      refine hN _ _ ?_
      simp only [tDNewK, tDIn, tDNotIn, tDGet, sDPut, rIxL, rIxT, rEq, rNe, rIsi, sFld, rSlL, rIn, rEqD, tYes, tCallN, tSeq, tIfS, tOp, tVar, tC, tCB, tCons, tNil, rI0, rI, tTest, tRet, tRetN, tNext, tAsg, gName, gNil, gCons, gTup, gUnl, tLst, tTup, tCall, tMeth, tMake, tUn, rU, tAndV, tOrV, tNotV, tAnd, tOr, tNot, tIf, tB, tFld, tDrop, tPar, tNever, tBM, rAppend, tSl, tPart, tNoPart, tM1, tyLst, List.getElem?_cons_zero, List.getElem?_cons_succ, Option.some.injEq, exists_eq_left', exists_eq_left, V.int.injEq, V.bl.injEq, V.str.injEq, V.ref.injEq, List.set_cons_zero, List.set_cons_succ, exists_and_left, exists_and_right, and_assoc, List.cons.injEq, and_true, true_and, List.cons_append, List.nil_append, List.append_nil, List.length_cons, List.length_nil, exists_eq', exists_eq, exists_const, exists_eq_right, exists_eq_right', cxK, Cx.nox, Cx.wish]
      exact q d kvs H2 e2 hd f2 hU hI hl hk
def spPath (K : PySem.W.Frag) : Sp := fun vs H Q _ => ∃ (l pn : Addr) (ns : List Int) (k sz : Int) (zs : List Str), vs = [.ref l, .int k, .ref pn, .int sz] ∧ SqL K H l (ns.map V.int) ∧ ns.length ≤ 63 ∧ 0 ≤ k ∧ k < 900000 ∧ SqL K H pn (zs.map V.str) ∧ Good zs ∧ zs.length = 5 ∧ 1 ≤ sz ∧ sz ≤ 20 ∧
  ∀ (p : Addr) (ls : List Lk) H', Ext H H' → PathAt K H' p ls → (ls.length : Int) = sz → (∀ l ∈ ls, LkOk l) → (∃ l0 r, ls = l0 :: r ∧ l0.g = Str.ofString "") → Q (.ref p) H'
theorem ok_l_path (T : Tx a K mg w) : FnOk P w K mg base CX0 3 a.f_l_path a.d_l_path ps_l_path (spPath K) := by
  refine T.F_l_path.ok sc_l_path (fun vs H Q E h => ?_) (fun cdv A outer s H vs Q E hr h => ?_)
  · obtain ⟨l, pn, ns, k, sz, zs, rfl, _⟩ := h
    rfl
  · obtain ⟨l, pn, ns, k, sz, zs, rfl, hs, hn, h0, h1, hz, hg, hzl, s0, s1, q⟩ := h
    have G_l_digits := ok_l_digits (P := P) (w := w) (base := base) T
    have B_l_digits := bnd_l_digits T
    have hr_l_digits : Room 2 _ := hr.mono (by decide)
    refine ⟨_, (pss_cons (ps_asg (pe_call G_l_digits hr_l_digits (by rfl) T.mg_l_digits T.F_l_digits.kp B_l_digits .nil pass0 (pa_cons (pv 0) (pa_cons (pv 1) (pa_cons (pe_lst (pa_cons pe_int (pa_cons pe_int pa_nil))) pa_nil)))) (pg_unl rfl (pgs_cons (pg_name (i := 4) sc_l_path.nd rfl (by first | exact Or.inl rfl | exact Or.inr rfl)) (pgs_cons (pg_name (i := 5) sc_l_path.nd rfl (by first | exact Or.inl rfl | exact Or.inr rfl)) pgs_nil)) (by rfl)))
      (pss_cons (ps_set (i := 6) sc_l_path.nd rfl (by first | exact Or.inl rfl | exact Or.inr rfl) (pe_lst pa_nil))
      (pss_cons (ps_set (i := 7) sc_l_path.nd rfl (by first | exact Or.inl rfl | exact Or.inr rfl) pe_int)
      (pss_cons (ps_set (i := 8) sc_l_path.nd rfl (by first | exact Or.inl rfl | exact Or.inr rfl) (pe_ix ix_list (pv 2) (pv 4) (fun _ _ => rfl)))
      (pss_cons (ps_set (i := 9) sc_l_path.nd rfl (by first | exact Or.inl rfl | exact Or.inr rfl) pe_str)
      (pss_cons (ps_for PassesOwn.never rfl (pi_range1 rfl T.no_range (pa_cons (pv 3) pa_nil)) (pg_name (i := 10) sc_l_path.nd rfl (by first | exact Or.inl rfl | exact Or.inr rfl))
        (pss_cons (ps_asg (pe_call G_l_digits hr_l_digits (by rfl) T.mg_l_digits T.F_l_digits.kp B_l_digits .nil pass0 (pa_cons (pv 0) (pa_cons (pe_op op_add (pe_op op_add (pv 1) pe_int) (pe_op op_mod (pv 10) pe_int)) (pa_cons (pe_lst (pa_cons pe_int (pa_cons pe_int (pa_cons pe_int (pa_cons pe_int (pa_cons pe_int pa_nil)))))) pa_nil)))) (pg_unl rfl (pgs_cons (pg_name (i := 11) sc_l_path.nd rfl (by first | exact Or.inl rfl | exact Or.inr rfl)) (pgs_cons (pg_name (i := 12) sc_l_path.nd rfl (by first | exact Or.inl rfl | exact Or.inr rfl)) (pgs_cons (pg_name (i := 13) sc_l_path.nd rfl (by first | exact Or.inl rfl | exact Or.inr rfl)) (pgs_cons (pg_name (i := 14) sc_l_path.nd rfl (by first | exact Or.inl rfl | exact Or.inr rfl)) (pgs_cons (pg_name (i := 15) sc_l_path.nd rfl (by first | exact Or.inl rfl | exact Or.inr rfl)) pgs_nil))))) (by rfl)))
        (pss_cons (ps_set (i := 7) sc_l_path.nd rfl (by first | exact Or.inl rfl | exact Or.inr rfl) (pe_callB (call_min2 rfl) (by rfl) T.no_min (by decide +kernel) (pa_cons pe_int (pa_cons (pe_op op_add (pv 7) (pv 12)) pa_nil))))
        (pss_cons (ps_expr (pe_bm PySem.F.plainAttrs_list PySem.F.slot_list_append PySem.F.type_list_append mt_append (pv 6) (pa_cons (pe_tup (pa_cons (pe_op op_add (pe_op op_add pe_int (pe_op op_mulW pe_int (pv 10))) (pv 12)) (pa_cons (pv 7) (pa_cons (pv 9) (pa_cons (pv 8) (pa_cons (pe_ifExp (pt_truth (pe_op op_mod (pe_op op_add (pv 11) (pv 10)) pe_int) (by intro _; rfl)) pe_str pe_str) (pa_cons (pe_op op_mulW (pv 13) (pe_ix ix_list (pe_lst (pa_cons pe_int (pa_cons (pe_op op_pow pe_int pe_int) (pa_cons pe_int pa_nil)))) (pv 15) (fun _ _ => rfl))) (pa_cons (pe_op op_add pe_int (pv 14)) pa_nil)))))))) pa_nil)))
        (pss_cons (ps_set (i := 9) sc_l_path.nd rfl (by first | exact Or.inl rfl | exact Or.inr rfl) (pv 8))
        (pss_one (ps_set (i := 8) sc_l_path.nd rfl (by first | exact Or.inl rfl | exact Or.inr rfl) (pe_ix ix_list (pv 2) (pe_op op_mod (pe_op op_add (pe_op op_add (pe_bm PySem.F.plainAttrs_list PySem.F.slot_list_index PySem.F.type_list_index mt_index (pv 2) (pa_cons (pv 8) pa_nil)) pe_int) (pe_op op_mod (pe_op op_add (pv 11) (pv 10)) pe_int)) pe_int) (fun _ _ => rfl)))))))))
      (pss_one (ps_ret (pe_callTy call_tuple_of (by rfl) T.no_tuple (by decide +kernel) (pa_cons (pv 6) pa_nil)))))))))), ?_⟩
    show tSeq _ _ _ [some (V.ref l), some (V.int k), some (V.ref pn), some (V.int sz), none, none, none, none, none, none, none, none, none, none, none, none] H
    have hz16 : sizeLine = 16777216 := rfl
    refine seq_i fun N hN => ?_
    simp only [tDNewK, tDIn, tDNotIn, tDGet, sDPut, rIxL, rIxT, rEq, rNe, rIsi, sFld, rSlL, rIn, rEqD, tYes, tCallN, tSeq, tIfS, tOp, tVar, tC, tCB, tCons, tNil, rI0, rI, tTest, tRet, tRetN, tNext, tAsg, gName, gNil, gCons, gTup, gUnl, tLst, tTup, tCall, tMeth, tMake, tUn, rU, tAndV, tOrV, tNotV, tAnd, tOr, tNot, tIf, tB, tFld, tDrop, tPar, tNever, tBM, rAppend, tSl, tPart, tNoPart, tM1, tyLst, List.getElem?_cons_zero, List.getElem?_cons_succ, Option.some.injEq, exists_eq_left', exists_eq_left, V.int.injEq, V.bl.injEq, V.str.injEq, V.ref.injEq, List.set_cons_zero, List.set_cons_succ, exists_and_left, exists_and_right, and_assoc, List.cons.injEq, and_true, true_and, List.cons_append, List.nil_append, List.append_nil, List.length_cons, List.length_nil, exists_eq', exists_eq, exists_const, exists_eq_right, exists_eq_right', cxK, Cx.nox, Cx.wish]
    refine ⟨by decide, fun pz hpz => ?_⟩
    generalize hH1 : upd H pz _ = H1
    obtain ⟨e1, f1⟩ := alloc hpz hH1
    refine ⟨l, pz, ns, [5, 5], _, rfl, seqL hs e1, hn, by omega, by omega, ofL f1, (by decide), (by decide), fun ds pd hdr hpd => ?_⟩
    obtain ⟨turning, far, rfl, ⟨a0, a1⟩, ⟨b0, b1⟩⟩ := drawn2 hdr
    generalize hH2 : upd H1 pd _ = H2
    obtain ⟨e2, f2⟩ := alloc hpd hH2
    refine ⟨pd, rfl, _, ofL f2, rfl, ?_⟩
    simp only [List.map_cons, List.map_nil, tDNewK, tDIn, tDNotIn, tDGet, sDPut, rIxL, rIxT, rEq, rNe, rIsi, sFld, rSlL, rIn, rEqD, tYes, tCallN, tSeq, tIfS, tOp, tVar, tC, tCB, tCons, tNil, rI0, rI, tTest, tRet, tRetN, tNext, tAsg, gName, gNil, gCons, gTup, gUnl, tLst, tTup, tCall, tMeth, tMake, tUn, rU, tAndV, tOrV, tNotV, tAnd, tOr, tNot, tIf, tB, tFld, tDrop, tPar, tNever, tBM, rAppend, tSl, tPart, tNoPart, tM1, tyLst, List.getElem?_cons_zero, List.getElem?_cons_succ, Option.some.injEq, exists_eq_left', exists_eq_left, V.int.injEq, V.bl.injEq, V.str.injEq, V.ref.injEq, List.set_cons_zero, List.set_cons_succ, exists_and_left, exists_and_right, and_assoc, List.cons.injEq, and_true, true_and, List.cons_append, List.nil_append, List.append_nil, List.length_cons, List.length_nil, exists_eq', exists_eq, exists_const, exists_eq_right, exists_eq_right', cxK, Cx.nox, Cx.wish]
    refine hN _ _ ?_
    clear hN N
    refine seq_i fun N hN => ?_
    simp only [tDNewK, tDIn, tDNotIn, tDGet, sDPut, rIxL, rIxT, rEq, rNe, rIsi, sFld, rSlL, rIn, rEqD, tYes, tCallN, tSeq, tIfS, tOp, tVar, tC, tCB, tCons, tNil, rI0, rI, tTest, tRet, tRetN, tNext, tAsg, gName, gNil, gCons, gTup, gUnl, tLst, tTup, tCall, tMeth, tMake, tUn, rU, tAndV, tOrV, tNotV, tAnd, tOr, tNot, tIf, tB, tFld, tDrop, tPar, tNever, tBM, rAppend, tSl, tPart, tNoPart, tM1, tyLst, List.getElem?_cons_zero, List.getElem?_cons_succ, Option.some.injEq, exists_eq_left', exists_eq_left, V.int.injEq, V.bl.injEq, V.str.injEq, V.ref.injEq, List.set_cons_zero, List.set_cons_succ, exists_and_left, exists_and_right, and_assoc, List.cons.injEq, and_true, true_and, List.cons_append, List.nil_append, List.append_nil, List.length_cons, List.length_nil, exists_eq', exists_eq, exists_const, exists_eq_right, exists_eq_right', cxK, Cx.nox, Cx.wish]
    refine ⟨by decide, fun pf hpf => ?_⟩
    generalize hH3 : upd H2 pf _ = H3
    obtain ⟨e3, f3⟩ := alloc hpf hH3
    refine hN _ _ ?_
    clear hN N
    have e03 := e1.trans (e2.trans e3)
    have hpf0 := none_back (e1.trans e2) hpf
    have z3 := seqL hz e03
    clear hH1 hH2 hH3 hpz hpd f1 f2 hpf
    refine seq_i fun N hN => ?_
    simp only [tDNewK, tDIn, tDNotIn, tDGet, sDPut, rIxL, rIxT, rEq, rNe, rIsi, sFld, rSlL, rIn, rEqD, tYes, tCallN, tSeq, tIfS, tOp, tVar, tC, tCB, tCons, tNil, rI0, rI, tTest, tRet, tRetN, tNext, tAsg, gName, gNil, gCons, gTup, gUnl, tLst, tTup, tCall, tMeth, tMake, tUn, rU, tAndV, tOrV, tNotV, tAnd, tOr, tNot, tIf, tB, tFld, tDrop, tPar, tNever, tBM, rAppend, tSl, tPart, tNoPart, tM1, tyLst, List.getElem?_cons_zero, List.getElem?_cons_succ, Option.some.injEq, exists_eq_left', exists_eq_left, V.int.injEq, V.bl.injEq, V.str.injEq, V.ref.injEq, List.set_cons_zero, List.set_cons_succ, exists_and_left, exists_and_right, and_assoc, List.cons.injEq, and_true, true_and, List.cons_append, List.nil_append, List.append_nil, List.length_cons, List.length_nil, exists_eq', exists_eq, exists_const, exists_eq_right, exists_eq_right', cxK, Cx.nox, Cx.wish]
    refine hN _ _ ?_
    clear hN N
    refine seq_i fun N hN => ?_
    simp only [tDNewK, tDIn, tDNotIn, tDGet, sDPut, rIxL, rIxT, rEq, rNe, rIsi, sFld, rSlL, rIn, rEqD, tYes, tCallN, tSeq, tIfS, tOp, tVar, tC, tCB, tCons, tNil, rI0, rI, tTest, tRet, tRetN, tNext, tAsg, gName, gNil, gCons, gTup, gUnl, tLst, tTup, tCall, tMeth, tMake, tUn, rU, tAndV, tOrV, tNotV, tAnd, tOr, tNot, tIf, tB, tFld, tDrop, tPar, tNever, tBM, rAppend, tSl, tPart, tNoPart, tM1, tyLst, List.getElem?_cons_zero, List.getElem?_cons_succ, Option.some.injEq, exists_eq_left', exists_eq_left, V.int.injEq, V.bl.injEq, V.str.injEq, V.ref.injEq, List.set_cons_zero, List.set_cons_succ, exists_and_left, exists_and_right, and_assoc, List.cons.injEq, and_true, true_and, List.cons_append, List.nil_append, List.append_nil, List.length_cons, List.length_nil, exists_eq', exists_eq, exists_const, exists_eq_right, exists_eq_right', cxK, Cx.nox, Cx.wish]
    obtain ⟨hd0, hdm, hat0⟩ := str_at (zs := zs) (k := turning) a0 (by omega)
    refine ⟨_, z3, _, hat0, hN _ _ ?_⟩
    clear hN N
    refine seq_i fun N hN => ?_
    simp only [tDNewK, tDIn, tDNotIn, tDGet, sDPut, rIxL, rIxT, rEq, rNe, rIsi, sFld, rSlL, rIn, rEqD, tYes, tCallN, tSeq, tIfS, tOp, tVar, tC, tCB, tCons, tNil, rI0, rI, tTest, tRet, tRetN, tNext, tAsg, gName, gNil, gCons, gTup, gUnl, tLst, tTup, tCall, tMeth, tMake, tUn, rU, tAndV, tOrV, tNotV, tAnd, tOr, tNot, tIf, tB, tFld, tDrop, tPar, tNever, tBM, rAppend, tSl, tPart, tNoPart, tM1, tyLst, List.getElem?_cons_zero, List.getElem?_cons_succ, Option.some.injEq, exists_eq_left', exists_eq_left, V.int.injEq, V.bl.injEq, V.str.injEq, V.ref.injEq, List.set_cons_zero, List.set_cons_succ, exists_and_left, exists_and_right, and_assoc, List.cons.injEq, and_true, true_and, List.cons_append, List.nil_append, List.append_nil, List.length_cons, List.length_nil, exists_eq', exists_eq, exists_const, exists_eq_right, exists_eq_right', cxK, Cx.nox, Cx.wish]
    refine hN _ _ ?_
    clear hN N
    refine seq_i fun N hN => ?_
    refine for_rangeI (n := sz) (fun R r => ⟨_, rfl, r⟩) (by omega) (by omega) (fun j σ H' => ∃ (day : Int) (hd gv : Str) (v10 v11 v12 v13 v14 v15 : Option V) (ts : List Addr) (ls : List Lk), σ = [some (V.ref l), some (V.int k), some (V.ref pn), some (V.int sz), some (V.int turning), some (V.int far), some (V.ref pf), some (V.int day), some (V.str hd), some (V.str gv), v10, v11, v12, v13, v14, v15] ∧
        0 ≤ day ∧ day ≤ 29 ∧ hd ∈ zs ∧ Small gv 6 ∧ Ext H H' ∧ H' pf = some (.lst (ts.map V.ref)) ∧ Paired (LkIn H') ts ls ∧ ls.length = j ∧ (∀ l ∈ ls, LkOk l) ∧ (ls = [] → gv = Str.ofString "") ∧ (ls ≠ [] → ∃ l0 r, ls = l0 :: r ∧ l0.g = Str.ofString ""))
      ⟨0, hd0, _, _, _, _, _, _, _, [], [], rfl, by decide, by decide, hdm, small_e, e03, f3, .nil, rfl, fun l hl => absurd hl List.not_mem_nil, fun _ => rfl, fun z => absurd rfl z⟩ ?_ ?_
    · rintro j σ H4 hj ⟨day, hd, gv, v10, v11, v12, v13, v14, v15, ts, ls, rfl, d0, d1, hhd, hgv, e4, f4, hT, hl, hok, hemp, hne⟩
      have hj : (j : Int) < sz := by omega
      clear hN z3
      show tSeq _ _ _ [some (V.ref l), some (V.int k), some (V.ref pn), some (V.int sz), some (V.int turning), some (V.int far), some (V.ref pf), some (V.int day), some (V.str hd), some (V.str gv), some (V.int (0 + (j : Int))), v11, v12, v13, v14, v15] H4
      refine seq_i fun N2 hN2 => ?_
      simp only [tDNewK, tDIn, tDNotIn, tDGet, sDPut, rIxL, rIxT, rEq, rNe, rIsi, sFld, rSlL, rIn, rEqD, tYes, tCallN, tSeq, tIfS, tOp, tVar, tC, tCB, tCons, tNil, rI0, rI, tTest, tRet, tRetN, tNext, tAsg, gName, gNil, gCons, gTup, gUnl, tLst, tTup, tCall, tMeth, tMake, tUn, rU, tAndV, tOrV, tNotV, tAnd, tOr, tNot, tIf, tB, tFld, tDrop, tPar, tNever, tBM, rAppend, tSl, tPart, tNoPart, tM1, tyLst, List.getElem?_cons_zero, List.getElem?_cons_succ, Option.some.injEq, exists_eq_left', exists_eq_left, V.int.injEq, V.bl.injEq, V.str.injEq, V.ref.injEq, List.set_cons_zero, List.set_cons_succ, exists_and_left, exists_and_right, and_assoc, List.cons.injEq, and_true, true_and, List.cons_append, List.nil_append, List.append_nil, List.length_cons, List.length_nil, exists_eq', exists_eq, exists_const, exists_eq_right, exists_eq_right', cxK, Cx.nox, Cx.wish]
      refine ⟨by decide, by decide, fun pz hpz => ?_⟩
      generalize hH5 : upd H4 pz _ = H5
      obtain ⟨e5, f5⟩ := alloc hpz hH5
      refine ⟨l, pz, ns, [4, 3, 997, 60, 3], _, rfl, seqL hs (e4.trans e5), hn, by omega, by omega, ofL f5, (by decide), (by decide), fun ds pd hdr hpd => ?_⟩
      obtain ⟨one, step, price, count, grown, rfl, ⟨o0, o1⟩, ⟨t0, t1⟩, ⟨p0, p1⟩, ⟨c0, c1⟩, ⟨g0, g1⟩⟩ := drawn5 hdr
      generalize hH6 : upd H5 pd _ = H6
      obtain ⟨e6, f6⟩ := alloc hpd hH6
      refine ⟨pd, rfl, _, ofL f6, rfl, ?_⟩
      simp only [List.map_cons, List.map_nil, tDNewK, tDIn, tDNotIn, tDGet, sDPut, rIxL, rIxT, rEq, rNe, rIsi, sFld, rSlL, rIn, rEqD, tYes, tCallN, tSeq, tIfS, tOp, tVar, tC, tCB, tCons, tNil, rI0, rI, tTest, tRet, tRetN, tNext, tAsg, gName, gNil, gCons, gTup, gUnl, tLst, tTup, tCall, tMeth, tMake, tUn, rU, tAndV, tOrV, tNotV, tAnd, tOr, tNot, tIf, tB, tFld, tDrop, tPar, tNever, tBM, rAppend, tSl, tPart, tNoPart, tM1, tyLst, List.getElem?_cons_zero, List.getElem?_cons_succ, Option.some.injEq, exists_eq_left', exists_eq_left, V.int.injEq, V.bl.injEq, V.str.injEq, V.ref.injEq, List.set_cons_zero, List.set_cons_succ, exists_and_left, exists_and_right, and_assoc, List.cons.injEq, and_true, true_and, List.cons_append, List.nil_append, List.append_nil, List.length_cons, List.length_nil, exists_eq', exists_eq, exists_const, exists_eq_right, exists_eq_right', cxK, Cx.nox, Cx.wish]
      refine hN2 _ _ ?_
      clear hN2 N2
      have e46 := e5.trans e6
      have f6' := e46 _ _ f4
      have hT6 := lk_ext hT e46
      have e06 := e4.trans e46
      clear hH5 hH6 hpz hpd f5 f6 hT f4
      refine seq_i fun N2 hN2 => ?_
      simp only [tDNewK, tDIn, tDNotIn, tDGet, sDPut, rIxL, rIxT, rEq, rNe, rIsi, sFld, rSlL, rIn, rEqD, tYes, tCallN, tSeq, tIfS, tOp, tVar, tC, tCB, tCons, tNil, rI0, rI, tTest, tRet, tRetN, tNext, tAsg, gName, gNil, gCons, gTup, gUnl, tLst, tTup, tCall, tMeth, tMake, tUn, rU, tAndV, tOrV, tNotV, tAnd, tOr, tNot, tIf, tB, tFld, tDrop, tPar, tNever, tBM, rAppend, tSl, tPart, tNoPart, tM1, tyLst, List.getElem?_cons_zero, List.getElem?_cons_succ, Option.some.injEq, exists_eq_left', exists_eq_left, V.int.injEq, V.bl.injEq, V.str.injEq, V.ref.injEq, List.set_cons_zero, List.set_cons_succ, exists_and_left, exists_and_right, and_assoc, List.cons.injEq, and_true, true_and, List.cons_append, List.nil_append, List.append_nil, List.length_cons, List.length_nil, exists_eq', exists_eq, exists_const, exists_eq_right, exists_eq_right', cxK, Cx.nox, Cx.wish]
      refine hN2 _ _ ?_
      clear hN2 N2
      generalize hdd : (if day + step < 29 then day + step else (29 : Int)) = dd
      have dd0 : 0 ≤ dd ∧ dd ≤ 29 := by rw [← hdd]; split <;> omega
      refine seq_i fun N2 hN2 => ?_
      simp only [tDNewK, tDIn, tDNotIn, tDGet, sDPut, rIxL, rIxT, rEq, rNe, rIsi, sFld, rSlL, rIn, rEqD, tYes, tCallN, tSeq, tIfS, tOp, tVar, tC, tCB, tCons, tNil, rI0, rI, tTest, tRet, tRetN, tNext, tAsg, gName, gNil, gCons, gTup, gUnl, tLst, tTup, tCall, tMeth, tMake, tUn, rU, tAndV, tOrV, tNotV, tAnd, tOr, tNot, tIf, tB, tFld, tDrop, tPar, tNever, tBM, rAppend, tSl, tPart, tNoPart, tM1, tyLst, List.getElem?_cons_zero, List.getElem?_cons_succ, Option.some.injEq, exists_eq_left', exists_eq_left, V.int.injEq, V.bl.injEq, V.str.injEq, V.ref.injEq, List.set_cons_zero, List.set_cons_succ, exists_and_left, exists_and_right, and_assoc, List.cons.injEq, and_true, true_and, List.cons_append, List.nil_append, List.append_nil, List.length_cons, List.length_nil, exists_eq', exists_eq, exists_const, exists_eq_right, exists_eq_right', cxK, Cx.nox, Cx.wish]
      have three : ∀ c : Str, Small c 6 → (∀ H', Ext H6 H' → ∀ (q1 : Addr) (lk : Lk), LkOk lk → lk.g = gv → H' q1 = some (.tup (lkV lk)) → H' pf = some (.lst (ts.map V.ref)) →
          N2 [some (V.ref l), some (V.int k), some (V.ref pn), some (V.int sz), some (V.int turning), some (V.int far), some (V.ref pf), some (V.int dd), some (V.str hd), some (V.str gv), some (V.int (0 + (j : Int))), some (V.int one), some (V.int step), some (V.int price), some (V.int count), some (V.int grown)]
            (upd H' pf (.lst (ts.map V.ref ++ [V.ref q1])))) →
          CPow 10 9 ∧ 0 + 1 + 1 + 1 ≤ sizeLine ∧ ∀ p : Addr, H6 p = none → ∃ x, SqL K (upd H6 p (HO.lst [V.int 1, V.int (10 ^ Int.toNat 9), V.int 0])) p x ∧ ∃ x_1, atI x grown = some x_1 ∧ ∃ x, x_1 = V.int x ∧ CMulW price x ∧ 0 + 1 + 1 + 1 + 1 + 1 + 1 + 1 ≤ sizeLine ∧
            ∀ (p_1 : Addr), upd H6 p (HO.lst [V.int 1, V.int (10 ^ Int.toNat 9), V.int 0]) p_1 = none → ∃ x_2,
              upd (upd H6 p (HO.lst [V.int 1, V.int (10 ^ Int.toNat 9), V.int 0])) p_1 (HO.tup [V.int (2 + 3 * (0 + ↑j) + step), V.int dd, V.str gv, V.str hd, V.str c, V.int (price * x), V.int (1 + count)]) pf = some (HO.lst x_2) ∧ x_2.length < sizeLine ∧
                N2 [some (V.ref l), some (V.int k), some (V.ref pn), some (V.int sz), some (V.int turning), some (V.int far), some (V.ref pf), some (V.int dd), some (V.str hd), some (V.str gv), some (V.int (0 + (j : Int))), some (V.int one), some (V.int step), some (V.int price), some (V.int count), some (V.int grown)]
                  (upd (upd (upd H6 p (HO.lst [V.int 1, V.int (10 ^ Int.toNat 9), V.int 0])) p_1 (HO.tup [V.int (2 + 3 * (0 + ↑j) + step), V.int dd, V.str gv, V.str hd, V.str c, V.int (price * x), V.int (1 + count)])) pf (HO.lst (x_2 ++ [V.ref p_1]))) := fun c hc hfin => by
        refine ⟨⟨by decide, by decide, by decide⟩, by decide, fun p2 hp2 => ?_⟩
        obtain ⟨x, hx, hxb⟩ := pick3 (P := fun x => 0 ≤ x ∧ x ≤ 10 ^ 9) (a := 1) (b := 10 ^ Int.toNat 9) (c := 0) g0 g1 (by decide) (by decide) (by decide)
        generalize hE : upd H6 p2 _ = H7
        obtain ⟨e7, f7⟩ := alloc hp2 hE
        have hpx : (price * x).natAbs < 2 ^ 60 := Nat.lt_of_lt_of_le (mul_lt 10 30 (by omega) (by omega)) (Nat.pow_le_pow_right (by decide) (by decide))
        refine ⟨_, ofL f7, _, hx, _, rfl, mulW64 (by omega) (by omega), by decide, fun q1 hq1 => ?_⟩
        generalize hE2 : upd H7 q1 _ = H8
        obtain ⟨e8, f8⟩ := alloc hq1 hE2
        have htl : ts.length = ls.length := Paired.length hT6
        refine ⟨_, e8 _ _ (e7 _ _ f6'), by rw [List.length_map]; omega, ?_⟩
        exact hfin H8 (e7.trans e8) q1 ⟨2 + 3 * (0 + (j : Int)) + step, dd, gv, hd, c, price * x, 1 + count⟩ ⟨by show (2 + 3 * (0 + (j : Int)) + step).natAbs < _; omega, by show dd.natAbs < _; omega, hgv, hg.small hhd, hc, hpx, by show (1 + count).natAbs < _; omega, by show 1 + count ≠ 0; omega⟩ rfl f8 (e8 _ _ (e7 _ _ f6'))
      suffices fin : ∀ H', Ext H6 H' → ∀ (q1 : Addr) (lk : Lk), LkOk lk → lk.g = gv → H' q1 = some (.tup (lkV lk)) → H' pf = some (.lst (ts.map V.ref)) →
          N2 [some (V.ref l), some (V.int k), some (V.ref pn), some (V.int sz), some (V.int turning), some (V.int far), some (V.ref pf), some (V.int dd), some (V.str hd), some (V.str gv), some (V.int (0 + (j : Int))), some (V.int one), some (V.int step), some (V.int price), some (V.int count), some (V.int grown)]
            (upd H' pf (.lst (ts.map V.ref ++ [V.ref q1]))) by
        refine ⟨tyLst f6', mulW64 (by decide) (by omega), by decide, _, rfl, ite2 (fun _ => three _ small_x fin) (fun _ => three _ small_y fin)⟩
      intro H7 e67 q1 lk hlk hlg f7 f7p
      refine hN2 _ _ ?_
      clear hN2 N2 three
      have o8 : Off pf H7 (upd H7 pf (.lst (ts.map V.ref ++ [V.ref q1]))) := Off.upd
      have e08 : Ext H (upd H7 pf (.lst (ts.map V.ref ++ [V.ref q1]))) := upd_ext (e06.trans e67) hpf0
      have hT8 : Paired (LkIn (upd H7 pf (.lst (ts.map V.ref ++ [V.ref q1])))) (ts ++ [q1]) (ls ++ [lk]) := lk_off (Paired.snoc (lk_ext hT6 e67) f7) f7p (fun _ z => by cases z) o8
      have f8 : upd H7 pf (.lst (ts.map V.ref ++ [V.ref q1])) pf = some (.lst ((ts ++ [q1]).map V.ref)) := by rw [upd_same, List.map_append]; rfl
      generalize upd H7 pf _ = H8 at e08 hT8 f8 ⊢
      clear o8 f7 f7p e67 hT6 f6' e06 e46
      refine seq_i fun N2 hN2 => ?_
      simp only [tDNewK, tDIn, tDNotIn, tDGet, sDPut, rIxL, rIxT, rEq, rNe, rIsi, sFld, rSlL, rIn, rEqD, tYes, tCallN, tSeq, tIfS, tOp, tVar, tC, tCB, tCons, tNil, rI0, rI, tTest, tRet, tRetN, tNext, tAsg, gName, gNil, gCons, gTup, gUnl, tLst, tTup, tCall, tMeth, tMake, tUn, rU, tAndV, tOrV, tNotV, tAnd, tOr, tNot, tIf, tB, tFld, tDrop, tPar, tNever, tBM, rAppend, tSl, tPart, tNoPart, tM1, tyLst, List.getElem?_cons_zero, List.getElem?_cons_succ, Option.some.injEq, exists_eq_left', exists_eq_left, V.int.injEq, V.bl.injEq, V.str.injEq, V.ref.injEq, List.set_cons_zero, List.set_cons_succ, exists_and_left, exists_and_right, and_assoc, List.cons.injEq, and_true, true_and, List.cons_append, List.nil_append, List.append_nil, List.length_cons, List.length_nil, exists_eq', exists_eq, exists_const, exists_eq_right, exists_eq_right', cxK, Cx.nox, Cx.wish]
      refine hN2 _ _ ?_
      clear hN2 N2
      simp only [tDNewK, tDIn, tDNotIn, tDGet, sDPut, rIxL, rIxT, rEq, rNe, rIsi, sFld, rSlL, rIn, rEqD, tYes, tCallN, tSeq, tIfS, tOp, tVar, tC, tCB, tCons, tNil, rI0, rI, tTest, tRet, tRetN, tNext, tAsg, gName, gNil, gCons, gTup, gUnl, tLst, tTup, tCall, tMeth, tMake, tUn, rU, tAndV, tOrV, tNotV, tAnd, tOr, tNot, tIf, tB, tFld, tDrop, tPar, tNever, tBM, rAppend, tSl, tPart, tNoPart, tM1, tyLst, List.getElem?_cons_zero, List.getElem?_cons_succ, Option.some.injEq, exists_eq_left', exists_eq_left, V.int.injEq, V.bl.injEq, V.str.injEq, V.ref.injEq, List.set_cons_zero, List.set_cons_succ, exists_and_left, exists_and_right, and_assoc, List.cons.injEq, and_true, true_and, List.cons_append, List.nil_append, List.append_nil, List.length_cons, List.length_nil, exists_eq', exists_eq, exists_const, exists_eq_right, exists_eq_right', cxK, Cx.nox, Cx.wish]
      obtain ⟨jx, hjx, hlow⟩ := name_idx hg.nd hhd
      refine ⟨tyLst' (seqL hz e08), pn, _, _, jx, V.str hd, rfl, rfl, seqL hz e08, rfl, flat_strs zs, by rw [List.getElem?_map, hjx]; rfl, by simp [eqV], hlow, _, rfl, by decide, by decide, ?_⟩
      obtain ⟨z2, hz2, hat2⟩ := str_at (zs := zs) (k := ((jx : Int) + 1 + (one + (0 + (j : Int))) % 4) % 5) (Int.emod_nonneg _ (by decide)) (by rw [hzl]; exact Int.emod_lt_of_pos _ (by decide))
      refine ⟨_, seqL hz e08, _, hat2, z2, rfl, dd0.1, dd0.2, hz2, hg.small hhd, e08, ts ++ [q1], f8, ls ++ [lk], hT8, by rw [List.length_append, hl]; rfl, fun l2 hl2 => ?_, fun z => by simp at z, fun _ => ?_⟩
      · rcases List.mem_append.mp hl2 with h | h
        · exact hok l2 h
        · rw [List.mem_singleton.mp h]
          exact hlk
      · cases ls with
        | nil => exact ⟨lk, ⟨[], rfl⟩, by rw [hlg]; exact hemp rfl⟩
        | cons l0 r =>
          obtain ⟨l0', r', e, hg0⟩ := hne (List.cons_ne_nil _ _)
          cases e
          exact ⟨l0, ⟨r ++ [lk], rfl⟩, hg0⟩
    · rintro σ H4 ⟨day, hd, gv, v10, v11, v12, v13, v14, v15, ts, ls, rfl, d0, d1, hhd, hgv, e4, f4, hT, hl, hok, hemp, hne⟩
      refine hN _ _ ?_
      simp only [tDNewK, tDIn, tDNotIn, tDGet, sDPut, rIxL, rIxT, rEq, rNe, rIsi, sFld, rSlL, rIn, rEqD, tYes, tCallN, tSeq, tIfS, tOp, tVar, tC, tCB, tCons, tNil, rI0, rI, tTest, tRet, tRetN, tNext, tAsg, gName, gNil, gCons, gTup, gUnl, tLst, tTup, tCall, tMeth, tMake, tUn, rU, tAndV, tOrV, tNotV, tAnd, tOr, tNot, tIf, tB, tFld, tDrop, tPar, tNever, tBM, rAppend, tSl, tPart, tNoPart, tM1, tyLst, List.getElem?_cons_zero, List.getElem?_cons_succ, Option.some.injEq, exists_eq_left', exists_eq_left, V.int.injEq, V.bl.injEq, V.str.injEq, V.ref.injEq, List.set_cons_zero, List.set_cons_succ, exists_and_left, exists_and_right, and_assoc, List.cons.injEq, and_true, true_and, List.cons_append, List.nil_append, List.append_nil, List.length_cons, List.length_nil, exists_eq', exists_eq, exists_const, exists_eq_right, exists_eq_right', cxK, Cx.nox, Cx.wish]
      refine ⟨_, .inl ⟨ofL f4, fun p hp => ?_⟩⟩
      refine q p ls _ (e4.trans (Ext.upd hp)) ⟨ts, ofT upd_same, lk_ext hT (Ext.upd hp)⟩ (by omega) hok (hne fun z => ?_)
      rw [z] at hl
      have : (0 : Nat) = sz.toNat := hl
      omega

end
end My

set_option Elab.async false
set_option maxRecDepth 100000
set_option maxHeartbeats 4000000
set_option linter.all false
namespace My
open PySem L2 Own
section
variable {P : Program} {w : World} {K : PySem.W.Frag} {mg : Str → Option Value} {base : Heap} {a : Adr}
/-! ### _first_fresh, fresh -/
def ffr (kvs : List (Key × V)) (ls : List Lk) : Nat → Nat
  | 0 => 0
  | n + 1 => match ls[n]? with
    | some l => if innerL kvs l = true then ffr kvs ls n else n + 1
    | none => n + 1
theorem ffr_le {kvs : List (Key × V)} {ls : List Lk} : ∀ n, ffr kvs ls n ≤ n
  | 0 => Nat.le_refl _
  | n + 1 => by
    unfold ffr
    split
    · split
      · exact Nat.le_succ_of_le (ffr_le n)
      · exact Nat.le_refl _
    · exact Nat.le_refl _
theorem ffr_step {kvs : List (Key × V)} {ls : List Lk} {n : Nat} {l : Lk} (h : ls[n]? = some l) (hi : innerL kvs l = true) : ffr kvs ls (n + 1) = ffr kvs ls n := by
  conv => lhs; unfold ffr
  rw [h]
  exact if_pos hi
theorem ffr_stop {kvs : List (Key × V)} {ls : List Lk} {n : Nat} {l : Lk} (h : ls[n]? = some l) (hi : innerL kvs l = false) : ffr kvs ls (n + 1) = n + 1 := by
  unfold ffr
  rw [h]
  exact if_neg (by rw [hi]; decide)
def spFF (K : PySem.W.Frag) : Sp := fun vs H Q _ => ∃ (p s : Addr) (kvs : List (Key × V)) (ls : List Lk), vs = [.ref p, .ref s] ∧ PathAt K H p ls ∧ H s = some (.dK kvs) ∧ AllV IsI kvs ∧ Q (.int (ffr kvs ls ls.length : Nat)) H
theorem ok_first_fresh (T : Tx a K mg w) : FnOk P w K mg base CX0 3 a.f_first_fresh a.d_first_fresh ps_first_fresh (spFF K) := by
  refine T.F_first_fresh.ok sc_first_fresh (fun vs H Q E h => ?_) (fun cdv A outer s H vs Q E hr h => ?_)
  · obtain ⟨p, s, kvs, ls, rfl, _⟩ := h
    rfl
  · obtain ⟨p, s, kvs, ls, rfl, ⟨ts, hp, hT⟩, hs, hI, k⟩ := h
    have G_inner := ok_inner (P := P) (w := w) (base := base) T
    have B_inner := bnd_inner T
    have hr_inner : Room 2 _ := hr.mono (by decide)
    refine ⟨_, (pss_cons (ps_set (i := 2) sc_first_fresh.nd rfl (by first | exact Or.inl rfl | exact Or.inr rfl) (pe_callB call_len_seq (by rfl) T.no_len (by decide +kernel) (pa_cons (pv 0) pa_nil)))
      (pss_cons (ps_while PassesOwn.never (PW.pt (pw_and (pt_cmpR op_gt (pv 2) pe_int (nomark _)) (pw_and1 (pt_val (pe_call G_inner hr_inner (by rfl) T.mg_inner T.F_inner.kp B_inner .nil pass0 (pa_cons (pe_ix ix_tup (pv 0) (pe_op op_sub (pv 2) pe_int) (fun _ _ => rfl)) (pa_cons (pv 1) pa_nil))))))) (pss_one (ps_aug (i := 2) sc_first_fresh.nd rfl (by first | exact Or.inl rfl | exact Or.inr rfl) pe_int ip_sub)))
      (pss_one (ps_ret (pv 2))))), ?_⟩
    show tSeq _ _ _ [some (V.ref p), some (V.ref s), none] H
    have htl : ts.length = ls.length := Paired.length hT
    refine seq_i fun N hN => ?_
    simp only [tDNewK, tDIn, tDNotIn, tDGet, sDPut, rIxL, rIxT, rEq, rNe, rIsi, sFld, rSlL, rIn, rEqD, tYes, tCallN, tSeq, tIfS, tOp, tVar, tC, tCB, tCons, tNil, rI0, rI, tTest, tRet, tRetN, tNext, tAsg, gName, gNil, gCons, gTup, gUnl, tLst, tTup, tCall, tMeth, tMake, tUn, rU, tAndV, tOrV, tNotV, tAnd, tOr, tNot, tIf, tB, tFld, tDrop, tPar, tNever, tBM, rAppend, tSl, tPart, tNoPart, tM1, tyLst, List.getElem?_cons_zero, List.getElem?_cons_succ, Option.some.injEq, exists_eq_left', exists_eq_left, V.int.injEq, V.bl.injEq, V.str.injEq, V.ref.injEq, List.set_cons_zero, List.set_cons_succ, exists_and_left, exists_and_right, and_assoc, List.cons.injEq, and_true, true_and, List.cons_append, List.nil_append, List.append_nil, List.length_cons, List.length_nil, exists_eq', exists_eq, exists_const, exists_eq_right, exists_eq_right', cxK, Cx.nox, Cx.wish]
    refine ⟨_, .inr hp, hN _ _ ?_⟩
    clear hN N
    rw [List.length_map, htl]
    refine seq_i fun N hN => ?_
    refine while_by (fun σ H' => ∃ n : Nat, σ = [some (V.ref p), some (V.ref s), some (V.int n)] ∧ H' = H ∧ n ≤ ls.length ∧ ffr kvs ls n = ffr kvs ls ls.length) (fun σ _ => match σ with | [_, _, some (V.int n)] => n.natAbs | _ => 0) ⟨ls.length, rfl, rfl, Nat.le_refl _, rfl⟩ ?_ ?_
    · rintro σ H' ⟨n, rfl, rfl, hn, hf⟩
      simp only [tAug, ipI, tDNewK, tDIn, tDNotIn, tDGet, sDPut, rIxL, rIxT, rEq, rNe, rIsi, sFld, rSlL, rIn, rEqD, tYes, tCallN, tSeq, tIfS, tOp, tVar, tC, tCB, tCons, tNil, rI0, rI, tTest, tRet, tRetN, tNext, tAsg, gName, gNil, gCons, gTup, gUnl, tLst, tTup, tCall, tMeth, tMake, tUn, rU, tAndV, tOrV, tNotV, tAnd, tOr, tNot, tIf, tB, tFld, tDrop, tPar, tNever, tBM, rAppend, tSl, tPart, tNoPart, tM1, tyLst, List.getElem?_cons_zero, List.getElem?_cons_succ, Option.some.injEq, exists_eq_left', exists_eq_left, V.int.injEq, V.bl.injEq, V.str.injEq, V.ref.injEq, List.set_cons_zero, List.set_cons_succ, exists_and_left, exists_and_right, and_assoc, List.cons.injEq, and_true, true_and, List.cons_append, List.nil_append, List.append_nil, List.length_cons, List.length_nil, exists_eq', exists_eq, exists_const, exists_eq_right, exists_eq_right', cxK, Cx.nox, Cx.wish]
      refine ite2 (fun hb => ?_) (fun hb => ?_)
      · have hb := of_decide_eq_true hb
        obtain ⟨m, rfl⟩ : ∃ m, n = m + 1 := ⟨n - 1, by omega⟩
        obtain ⟨l, hl⟩ : ∃ l, ls[m]? = some l := ⟨_, List.getElem?_eq_getElem (by omega : m < ls.length)⟩
        obtain ⟨t, ht⟩ : ∃ t, ts[m]? = some t := ⟨_, List.getElem?_eq_getElem (by omega : m < ts.length)⟩
        obtain ⟨l2, hl2, hlk⟩ := LiI.paired_get hT ht
        rw [hl] at hl2
        cases hl2
        have hat : atI (ts.map V.ref) ((m + 1 : Nat) - 1 : Int) = some (V.ref t) := by
          rw [show (((m + 1 : Nat) : Int) - 1) = (m : Int) by omega]
          exact atI_map (Own.atI_nat ht)
        refine ⟨_, hp, _, hat, t, s, kvs, _, _, _, _, _, rfl, ofT hlk, hs, hI, innerL kvs l, rfl, ?_⟩
        cases hi : innerL kvs l with
        | true =>
          refine iteT ⟨⟨m, by omega, rfl, by omega, by rw [← hf, ffr_step hl hi]⟩, by show (((m + 1 : Nat) : Int) - 1).natAbs < ((m + 1 : Nat) : Int).natAbs; omega⟩
        | false =>
          refine iteF (hN _ _ ?_)
          simp only [tDNewK, tDIn, tDNotIn, tDGet, sDPut, rIxL, rIxT, rEq, rNe, rIsi, sFld, rSlL, rIn, rEqD, tYes, tCallN, tSeq, tIfS, tOp, tVar, tC, tCB, tCons, tNil, rI0, rI, tTest, tRet, tRetN, tNext, tAsg, gName, gNil, gCons, gTup, gUnl, tLst, tTup, tCall, tMeth, tMake, tUn, rU, tAndV, tOrV, tNotV, tAnd, tOr, tNot, tIf, tB, tFld, tDrop, tPar, tNever, tBM, rAppend, tSl, tPart, tNoPart, tM1, tyLst, List.getElem?_cons_zero, List.getElem?_cons_succ, Option.some.injEq, exists_eq_left', exists_eq_left, V.int.injEq, V.bl.injEq, V.str.injEq, V.ref.injEq, List.set_cons_zero, List.set_cons_succ, exists_and_left, exists_and_right, and_assoc, List.cons.injEq, and_true, true_and, List.cons_append, List.nil_append, List.append_nil, List.length_cons, List.length_nil, exists_eq', exists_eq, exists_const, exists_eq_right, exists_eq_right', cxK, Cx.nox, Cx.wish]
          rw [← hf, ffr_stop hl hi] at k
          exact k
      · have hb : ¬ 0 < (n : Int) := fun z => hb (decide_eq_true z)
        obtain rfl : n = 0 := by omega
        refine hN _ _ ?_
        simp only [tDNewK, tDIn, tDNotIn, tDGet, sDPut, rIxL, rIxT, rEq, rNe, rIsi, sFld, rSlL, rIn, rEqD, tYes, tCallN, tSeq, tIfS, tOp, tVar, tC, tCB, tCons, tNil, rI0, rI, tTest, tRet, tRetN, tNext, tAsg, gName, gNil, gCons, gTup, gUnl, tLst, tTup, tCall, tMeth, tMake, tUn, rU, tAndV, tOrV, tNotV, tAnd, tOr, tNot, tIf, tB, tFld, tDrop, tPar, tNever, tBM, rAppend, tSl, tPart, tNoPart, tM1, tyLst, List.getElem?_cons_zero, List.getElem?_cons_succ, Option.some.injEq, exists_eq_left', exists_eq_left, V.int.injEq, V.bl.injEq, V.str.injEq, V.ref.injEq, List.set_cons_zero, List.set_cons_succ, exists_and_left, exists_and_right, and_assoc, List.cons.injEq, and_true, true_and, List.cons_append, List.nil_append, List.append_nil, List.length_cons, List.length_nil, exists_eq', exists_eq, exists_const, exists_eq_right, exists_eq_right', cxK, Cx.nox, Cx.wish]
        rw [← hf] at k
        exact k
    · intro σ H' Q1 Q2 hq h
      obtain ⟨v, h1, i, j, e1, e2, k, e3, h⟩ := h
      refine ⟨v, h1, i, j, e1, e2, k, e3, ?_⟩
      cases k with
      | false => exact hq _ _ h
      | true =>
        obtain ⟨v0, g0, v2, g2, i2, j2, f1, f2, p, k, xs, u, f3, f4, f5, f6, v1, g1, l, s, kvs, n, day, g, t, r, z1, z2, z3, z4, c, z5, z6⟩ := h
        exact ⟨v0, g0, v2, g2, i2, j2, f1, f2, p, k, xs, u, f3, f4, f5, f6, v1, g1, l, s, kvs, n, day, g, t, r, z1, z2, z3, z4, c, z5, hq _ _ z6⟩
/-- what a fresh link's giver has gained -/
def gain (c : Int) (ls : List Lk) (i : Nat) (n : Str) : Rat := val (costL c (ls.take (i + 1))) n - val (costL c (ls.take i)) n
def FreshRow (C CP : Addr) (c : Int) (ls : List Lk) (H : Hp) (t : Addr) (i : Nat) : Prop := ∃ (l : Lk) (p d : Addr) (gs : List (Str × Rat)), ls[i]? = some l ∧ H t = some (.tup [.str l.g, .ref p]) ∧ PurD C CP H p d gs ∧ Canon gs ∧ ∀ n, val gs n = gain c ls i n
theorem fresh_ext {C CP : Addr} {c : Int} {ls : List Lk} {H H' : Hp} {ts : List Addr} {is : List Nat} (h : Paired (FreshRow C CP c ls H) ts is) (e : Ext H H') : Paired (FreshRow C CP c ls H') ts is := pmono (fun t i z => by
  obtain ⟨l, p, d, gs, h1, h2, h3, h4, h5⟩ := z
  exact ⟨l, p, d, gs, h1, e _ _ h2, h3.ext e, h4, h5⟩) h
theorem fresh_offL {C CP : Addr} {c : Int} {ls : List Lk} {H H' : Hp} {d : Addr} {xs : List V} {ts : List Addr} {is : List Nat} (h : Paired (FreshRow C CP c ls H) ts is) (hd : H d = some (.lst xs)) (e : Off d H H') : Paired (FreshRow C CP c ls H') ts is := pmono (fun t i z => by
  obtain ⟨l, p, d2, gs, h1, h2, h3, h4, h5⟩ := z
  exact ⟨l, p, d2, gs, h1, e _ _ h2 (fun y => by rw [y, hd] at h2; cases h2), h3.offL hd e, h4, h5⟩) h
theorem costL_one {c : Int} {ls : List Lk} : (costL c ls).length ≤ 1 := by
  unfold costL
  split
  · exact Nat.zero_le _
  · exact Nat.le_refl _
theorem costL_nd {c : Int} {ls : List Lk} : ((costL c ls).map (·.1)).Nodup := by
  unfold costL
  split
  · exact List.nodup_nil
  · show [_].Nodup
    simp
theorem costL_sz {c : Int} {ls : List Lk} (hc : c.natAbs < 2 ^ 60) (hok : ∀ l ∈ ls, LkOk l) : ∀ x ∈ costL c ls, Sz x.2 120 := fun x hx => by
  unfold costL at hx
  split at hx
  · exact absurd hx List.not_mem_nil
  · rename_i l hl
    rw [List.mem_singleton.mp hx]
    exact cost_sz hc (hok l (List.mem_of_getLast? hl))
/-- what rising names with the same sums are of -/
theorem canon_of {hs es : List (Str × Rat)} (h : Canon hs) (nd : (es.map (·.1)).Nodup) (e : ∀ n, val hs n = val es n) : hs.length ≤ es.length ∧ ∀ x ∈ hs, x ∈ es := by
  have key : ∀ x ∈ hs, x ∈ es := fun x hx => by
    have h1 := val_mem (n := x.1) h.nd hx
    have hn : x.1 ∈ es.map (·.1) := Classical.byContradiction fun z => h.nz x hx (by rw [← h1, e, val_miss z])
    obtain ⟨y, hy, hyx⟩ := List.mem_map.mp hn
    have h2 := val_mem (n := y.1) nd hy
    rw [hyx, ← e, h1] at h2
    have : x = y := Prod.ext hyx.symm h2
    exact this ▸ hy
  refine ⟨?_, key⟩
  have := nodup_le (m := es.map (·.1)) h.nd fun n hn => by
    obtain ⟨x, hx, rfl⟩ := List.mem_map.mp hn
    exact List.mem_map.mpr ⟨x, key x hx, rfl⟩
  rw [List.length_map, List.length_map] at this
  exact this
/-- told of a purse, and due: the same -/
theorem told_due2 {C CP : Addr} {r dr b : Addr} {rs es : List (Str × Rat)} {B : Nat} {H : Hp} {Q : VK} {E : XK} (hP : PurD C CP H r dr rs) (hc : Canon rs) (hB : BagG H b es) (nd : (es.map (·.1)).Nodup) (hl : es.length < 64) (hv : ∀ n, val rs n = val es n) (hsz : ∀ x ∈ es, Sz x.2 B) (hB9 : B ≤ 1900) (hsm : ∀ x ∈ es, ∃ n, Small x.1 n ∧ n ≤ 100) (k : ∀ H', Ext H H' → Q (.bl false) H') :
    spTold C CP [.ref r] H (fun x H1 => spDue [.ref b] H1 (fun y H2 => rNeD K x y H2 Q) E) E := by
  obtain ⟨hlen, hsub⟩ := canon_of hc nd hv
  refine ⟨r, dr, rs, rfl, hP, hc.nd, by omega, fun q H1 e1 _ h1 => ?_⟩
  refine ⟨b, es, rfl, hB.ext e1, nd, hl, fun q2 H2 cs e2 _ hcc hvc h2 => ?_⟩
  have heq : rs = cs := hc.eq hcc fun n => by rw [hv, hvc]
  subst heq
  have hn : Neat (.list (rs.map row3D)) := (Mild.rows3 (fun e he => ⟨hsm e (hsub e he), (hsz e (hsub e he)).mono hB9⟩) (by omega)).neat (by decide) (by decide)
  refine ⟨_, _, (h1.ext e2).dp, h2.dp, hn.shaped, hn.shaped, ?_⟩
  rw [hn.refl]
  exact k H2 (e1.trans e2)

/-- a path cut at its end -/
theorem path_take {H : Hp} {p : Addr} {ts : List Addr} {ls : List Lk} (n : Nat) (hn : n ≤ ls.length) (hp : SqT K H p (ts.map V.ref)) (hT : Paired (LkIn H) ts ls) {Q : VK} (k : ∀ q H', Ext H H' → PathAt K H' q (ls.take n) → Q (.ref q) H') : rSlA K (.ref p) none (some (n : Int)) H Q := by
  have htl : ts.length = ls.length := Paired.length hT
  have hc : cutV (ts.map V.ref) none (some (n : Int)) = (ts.take n).map V.ref := by
    unfold cutV
    rw [HT.sIx_nat, List.length_map, Nat.min_eq_left (by omega)]
    show ((ts.map V.ref).drop 0).take (n - 0) = _
    rw [List.drop_zero, Nat.sub_zero, List.map_take]
  have hTn : Paired (LkIn H) (ts.take n) (ls.take n) := ptake hT n
  refine ⟨p, _, rfl, hp, fun hw => ?_, fun _ q hq => ?_⟩
  · rw [HT.sIx_nat, List.length_map, Nat.min_eq_left (by omega)] at hw
    have hnl : n = ts.length := hw.2
    refine k p H (Ext.refl' _) ⟨ts, hp, ?_⟩
    rw [List.take_of_length_le (by omega)]
    exact hT
  · rw [hc]
    exact k q _ (Ext.upd hq) ⟨ts.take n, ofT upd_same, lk_ext hTn (Ext.upd hq)⟩
def spFresh (K : PySem.W.Frag) (C CP : Addr) : Sp := fun vs H Q _ => ∃ (c : Int) (p s : Addr) (kvs : List (Key × V)) (ls : List Lk), vs = [.int c, .ref p, .ref s] ∧ PathAt K H p ls ∧ H s = some (.dK kvs) ∧ AllV IsI kvs ∧ ls.length ≤ 100 ∧ c.natAbs < 2 ^ 60 ∧ (∀ l ∈ ls, LkOk l) ∧
  ∀ (q : Addr) (ts : List Addr) H', Ext H H' → H' q = some (.lst (ts.map V.ref)) → Paired (FreshRow C CP c ls H') ts (List.range' (ffr kvs ls ls.length) (ls.length - ffr kvs ls ls.length)) → Q (.ref q) H'
theorem ok_fresh (T : Tx a K mg w) : FnOk P w K mg base CX0 8 a.f_fresh a.d_fresh ps_fresh (spFresh K a.C_Purse a.C_Part) := by
  refine T.F_fresh.ok sc_fresh (fun vs H Q E h => ?_) (fun cdv A outer s H vs Q E hr h => ?_)
  · obtain ⟨c, p, s, kvs, ls, rfl, _⟩ := h
    rfl
  · obtain ⟨c, p, s, kvs, ls, rfl, ⟨ts, hp, hT⟩, hs, hI, hln, hc, hok, k⟩ := h
    have G_first_fresh := ok_first_fresh (P := P) (w := w) (base := base) T
    have B_first_fresh := bnd_first_fresh T
    have hr_first_fresh : Room 3 _ := hr.mono (by decide)
    have G_cost_by_last := ok_cost_by_last (P := P) (w := w) (base := base) T
    have B_cost_by_last := bnd_cost_by_last T
    have hr_cost_by_last : Room 6 _ := hr.mono (by decide)
    have G_Purse_minus := ok_Purse_minus (P := P) (w := w) (base := base) T
    have B_Purse_minus := bnd_Purse_minus T
    have hr_Purse_minus : Room 7 _ := hr.mono (by decide)
    refine ⟨_, (pss_cons (ps_set (i := 3) sc_fresh.nd rfl (by first | exact Or.inl rfl | exact Or.inr rfl) (pe_lst pa_nil))
      (pss_cons (ps_for PassesOwn.never rfl (pi_range2 rfl T.no_range (pa_cons (pe_call G_first_fresh hr_first_fresh (by rfl) T.mg_first_fresh T.F_first_fresh.kp B_first_fresh .nil pass0 (pa_cons (pv 1) (pa_cons (pv 2) pa_nil))) (pa_cons (pe_callB call_len_seq (by rfl) T.no_len (by decide +kernel) (pa_cons (pv 1) pa_nil)) pa_nil))) (pg_name (i := 4) sc_fresh.nd rfl (by first | exact Or.inl rfl | exact Or.inr rfl))
        (pss_cons (ps_set (i := 5) sc_fresh.nd rfl (by first | exact Or.inl rfl | exact Or.inr rfl) (pe_meth (pe_call G_cost_by_last hr_cost_by_last (by rfl) T.mg_cost_by_last T.F_cost_by_last.kp B_cost_by_last .nil pass0 (pa_cons (pv 0) (pa_cons (pe_slice sl_tupA (pv 1) po_none (po_some (pe_op op_add (pv 4) pe_int))) pa_nil))) T.cl_Purse T.m_Purse_minus G_Purse_minus hr_Purse_minus B_Purse_minus .nil pass0 (pa_cons (pe_call G_cost_by_last hr_cost_by_last (by rfl) T.mg_cost_by_last T.F_cost_by_last.kp B_cost_by_last .nil pass0 (pa_cons (pv 0) (pa_cons (pe_slice sl_tupA (pv 1) po_none (po_some (pv 4))) pa_nil))) pa_nil)))
        (pss_one (ps_expr (pe_bm PySem.F.plainAttrs_list PySem.F.slot_list_append PySem.F.type_list_append mt_append (pv 3) (pa_cons (pe_tup (pa_cons (pe_ix ix_tup (pe_ix ix_tup (pv 1) (pv 4) (fun _ _ => rfl)) pe_int (fun _ _ => rfl)) (pa_cons (pv 5) pa_nil))) pa_nil))))))
      (pss_one (ps_ret (pv 3))))), ?_⟩
    show tSeq _ _ _ [some (V.int c), some (V.ref p), some (V.ref s), none, none, none] H
    have hz16 : sizeLine = 16777216 := rfl
    have htl : ts.length = ls.length := Paired.length hT
    refine seq_i fun N hN => ?_
    simp only [tDNewK, tDIn, tDNotIn, tDGet, sDPut, rIxL, rIxT, rEq, rNe, rIsi, sFld, rSlL, rIn, rEqD, tYes, tCallN, tSeq, tIfS, tOp, tVar, tC, tCB, tCons, tNil, rI0, rI, tTest, tRet, tRetN, tNext, tAsg, gName, gNil, gCons, gTup, gUnl, tLst, tTup, tCall, tMeth, tMake, tUn, rU, tAndV, tOrV, tNotV, tAnd, tOr, tNot, tIf, tB, tFld, tDrop, tPar, tNever, tBM, rAppend, tSl, tPart, tNoPart, tM1, tyLst, List.getElem?_cons_zero, List.getElem?_cons_succ, Option.some.injEq, exists_eq_left', exists_eq_left, V.int.injEq, V.bl.injEq, V.str.injEq, V.ref.injEq, List.set_cons_zero, List.set_cons_succ, exists_and_left, exists_and_right, and_assoc, List.cons.injEq, and_true, true_and, List.cons_append, List.nil_append, List.append_nil, List.length_cons, List.length_nil, exists_eq', exists_eq, exists_const, exists_eq_right, exists_eq_right', cxK, Cx.nox, Cx.wish]
    refine ⟨by decide, fun pf hpf => ?_⟩
    generalize hE : upd H pf _ = H1
    obtain ⟨e1, f1⟩ := alloc hpf hE
    refine hN _ _ ?_
    clear hN N hE
    refine seq_i fun N hN => ?_
    have hff := ffr_le (kvs := kvs) (ls := ls) ls.length
    generalize hfe : ffr kvs ls ls.length = ff at hff k
    have hp1 := hp.ext e1
    have hT1 := lk_ext hT e1
    refine tFor_i (J := Itr (ff : Int) (ls.length - ff)) (fun R r => ?_) walk_range (fun i σ H' => ∃ v4 v5, σ = [some (V.int c), some (V.ref p), some (V.ref s), some (V.ref pf), v4, v5] ∧ Ext H H' ∧ ∃ us : List Addr, H' pf = some (.lst (us.map V.ref)) ∧ us.length = i ∧ Paired (FreshRow a.C_Purse a.C_Part c ls H') us (List.range' ff i))
      ⟨_, _, rfl, e1, [], f1, rfl, .nil⟩ (fun _ _ _ _ _ => trivial) ?_ ?_
    · refine ⟨_, rfl, _, rfl, p, s, kvs, ls, rfl, ⟨ts, hp1, hT1⟩, e1 _ _ hs, hI, _, rfl, p, _, rfl, .inr hp1, _, _, rfl, ?_, ?_⟩
      · rw [List.length_map]
        omega
      · rw [hfe, List.length_map, htl]
        rw [show ((ls.length : Int) - (ff : Int)).toNat = ls.length - ff by omega]
        exact r
    · rintro i x σ H2 H3 hi ⟨v4, v5, rfl, e2, us, f2, hul, hU⟩ ⟨rfl, rfl⟩
      have hp2 := hp.ext e2
      have hT2 := lk_ext hT e2
      have hai : ff + i < ls.length := by omega
      show tSeq _ _ _ [some (V.int c), some (V.ref p), some (V.ref s), some (V.ref pf), some (V.int ((ff : Int) + i)), v5] H3
      refine seq_i fun N2 hN2 => ?_
      simp only [tDNewK, tDIn, tDNotIn, tDGet, sDPut, rIxL, rIxT, rEq, rNe, rIsi, sFld, rSlL, rIn, rEqD, tYes, tCallN, tSeq, tIfS, tOp, tVar, tC, tCB, tCons, tNil, rI0, rI, tTest, tRet, tRetN, tNext, tAsg, gName, gNil, gCons, gTup, gUnl, tLst, tTup, tCall, tMeth, tMake, tUn, rU, tAndV, tOrV, tNotV, tAnd, tOr, tNot, tIf, tB, tFld, tDrop, tPar, tNever, tBM, rAppend, tSl, tPart, tNoPart, tM1, tyLst, List.getElem?_cons_zero, List.getElem?_cons_succ, Option.some.injEq, exists_eq_left', exists_eq_left, V.int.injEq, V.bl.injEq, V.str.injEq, V.ref.injEq, List.set_cons_zero, List.set_cons_succ, exists_and_left, exists_and_right, and_assoc, List.cons.injEq, and_true, true_and, List.cons_append, List.nil_append, List.append_nil, List.length_cons, List.length_nil, exists_eq', exists_eq, exists_const, exists_eq_right, exists_eq_right', cxK, Cx.nox, Cx.wish]
      have ein : ((ff : Int) + (i : Int)) = ((ff + i : Nat) : Int) := by omega
      have ein1 : ((ff : Int) + (i : Int) + 1) = ((ff + i + 1 : Nat) : Int) := by omega
      rw [ein1, ein]
      refine path_take (ff + i + 1) (by omega) hp2 hT2 fun q1 H4 e4 hq1 => ?_
      have hokt : ∀ n, ∀ l ∈ ls.take n, LkOk l := fun n l hl => hok l (List.mem_of_mem_take hl)
      refine ⟨c, q1, _, rfl, hq1, hc, hokt _, fun r1 d1 hs1 H5 e5 nd1 hc1 hv1 hP1 => ?_⟩
      have e35 := e4.trans e5
      obtain ⟨dx1, kv1, i1, i2, i3⟩ := hP1
      refine ⟨r1, rfl, dx1, _, i1, held_no (by decide +kernel), ?_⟩
      refine path_take (ff + i) (by omega) (hp2.ext e35) (lk_ext hT2 e35) fun q2 H6 e6 hq2 => ?_
      refine ⟨c, q2, _, rfl, hq2, hc, hokt _, fun r2 d2 hs2 H7 e7 nd2 hc2 hv2 hP2 => ?_⟩
      have hP1 : PurD a.C_Purse a.C_Part H7 r1 d1 hs1 := PurD.ext ⟨dx1, kv1, i1, i2, i3⟩ (e6.trans e7)
      obtain ⟨l1, sb1⟩ := canon_of hc1 costL_nd hv1
      obtain ⟨l2, sb2⟩ := canon_of hc2 costL_nd hv2
      have lo1 := costL_one (c := c) (ls := ls.take (ff + i + 1))
      have lo2 := costL_one (c := c) (ls := ls.take (ff + i))
      refine ⟨r1, d1, r2, d2, hs1, hs2, 120, rfl, hP1, hP2, hc2, fun x hx => ?_, by omega, by omega, fun r3 d3 rs H8 e8 nd3 hc3 hv3 hP3 => ?_⟩
      · rcases List.mem_append.mp hx with h | h
        · exact costL_sz hc (hokt _) x (sb1 x h)
        · exact costL_sz hc (hokt _) x (sb2 x h)
      refine hN2 _ _ ?_
      clear hN2 N2
      have e38 := e35.trans (e6.trans (e7.trans e8))
      obtain ⟨l, hli⟩ : ∃ l, ls[ff + i]? = some l := ⟨_, List.getElem?_eq_getElem hai⟩
      obtain ⟨t, hti⟩ : ∃ t, ts[ff + i]? = some t := ⟨_, List.getElem?_eq_getElem (by omega : ff + i < ts.length)⟩
      obtain ⟨l', hl', hlk⟩ := LiI.paired_get (lk_ext hT2 e38) hti
      rw [hli] at hl'
      cases hl'
      have hlk : H8 t = some (.tup (lkV l)) := hlk
      have hat : atI (ts.map V.ref) ((ff + i : Nat) : Int) = some (V.ref t) := atI_map (Own.atI_nat hti)
      have a2 : atI (lkV l) 2 = some (V.str l.g) := Own.atI_nat (j := 2) rfl
      have f8 := e38 _ _ f2
      simp only [tDNewK, tDIn, tDNotIn, tDGet, sDPut, rIxL, rIxT, rEq, rNe, rIsi, sFld, rSlL, rIn, rEqD, tYes, tCallN, tSeq, tIfS, tOp, tVar, tC, tCB, tCons, tNil, rI0, rI, tTest, tRet, tRetN, tNext, tAsg, gName, gNil, gCons, gTup, gUnl, tLst, tTup, tCall, tMeth, tMake, tUn, rU, tAndV, tOrV, tNotV, tAnd, tOr, tNot, tIf, tB, tFld, tDrop, tPar, tNever, tBM, rAppend, tSl, tPart, tNoPart, tM1, tyLst, List.getElem?_cons_zero, List.getElem?_cons_succ, Option.some.injEq, exists_eq_left', exists_eq_left, V.int.injEq, V.bl.injEq, V.str.injEq, V.ref.injEq, List.set_cons_zero, List.set_cons_succ, exists_and_left, exists_and_right, and_assoc, List.cons.injEq, and_true, true_and, List.cons_append, List.nil_append, List.append_nil, List.length_cons, List.length_nil, exists_eq', exists_eq, exists_const, exists_eq_right, exists_eq_right', cxK, Cx.nox, Cx.wish]
      refine ⟨tyLst f8, _, hp2.ext e38, _, hat, t, rfl, _, ofT hlk, _, a2, by decide, fun pt hpt => ?_⟩
      generalize hE : upd H8 pt _ = H9
      obtain ⟨e9, f9⟩ := alloc hpt hE
      have f99 := e9 _ _ f8
      have o9 : Off pf H9 (upd H9 pf (.lst (us.map V.ref ++ [V.ref pt]))) := Off.upd
      refine ⟨_, f99, by rw [List.length_map]; omega, upd_ext (e2.trans (e38.trans e9)) hpf, us ++ [pt], by rw [upd_same, List.map_append]; rfl, by rw [List.length_append, hul]; rfl, ?_⟩
      rw [List.range'_concat, Nat.one_mul]
      refine fresh_offL (Paired.snoc (fresh_ext hU (e38.trans e9)) ⟨l, r3, d3, rs, hli, f9, hP3.ext e9, hc3, fun n => ?_⟩) f99 o9
      rw [hv3, hv1, hv2]
      rfl
    · rintro σ H2 ⟨v4, v5, rfl, e2, us, f2, hul, hU⟩
      refine hN _ _ ?_
      simp only [tDNewK, tDIn, tDNotIn, tDGet, sDPut, rIxL, rIxT, rEq, rNe, rIsi, sFld, rSlL, rIn, rEqD, tYes, tCallN, tSeq, tIfS, tOp, tVar, tC, tCB, tCons, tNil, rI0, rI, tTest, tRet, tRetN, tNext, tAsg, gName, gNil, gCons, gTup, gUnl, tLst, tTup, tCall, tMeth, tMake, tUn, rU, tAndV, tOrV, tNotV, tAnd, tOr, tNot, tIf, tB, tFld, tDrop, tPar, tNever, tBM, rAppend, tSl, tPart, tNoPart, tM1, tyLst, List.getElem?_cons_zero, List.getElem?_cons_succ, Option.some.injEq, exists_eq_left', exists_eq_left, V.int.injEq, V.bl.injEq, V.str.injEq, V.ref.injEq, List.set_cons_zero, List.set_cons_succ, exists_and_left, exists_and_right, and_assoc, List.cons.injEq, and_true, true_and, List.cons_append, List.nil_append, List.append_nil, List.length_cons, List.length_nil, exists_eq', exists_eq, exists_const, exists_eq_right, exists_eq_right', cxK, Cx.nox, Cx.wish]
      exact k pf us H2 e2 f2 hU
/-! ### _law_told_all -/
/-- a row of a giver and of what is told of a purse -/
def ToldRow (c : Int) (ls : List Lk) (D : Addr) (H : Hp) (t : Addr) (i : Nat) : Prop := ∃ (l : Lk) (q : Addr) (cs : List (Str × Rat)), q ≠ D ∧ ls[i]? = some l ∧ H t = some (.tup [.str l.g, .ref q]) ∧ Rows3 H q cs ∧ Canon cs ∧ ∀ n, val cs n = gain c ls i n
theorem trow_ext {c : Int} {ls : List Lk} {D : Addr} {H H' : Hp} {ts : List Addr} {is : List Nat} (h : Paired (ToldRow c ls D H) ts is) (e : Ext H H') : Paired (ToldRow c ls D H') ts is := pmono (fun t i z => by
  obtain ⟨l, q, cs, h0, h1, h2, h3, h4, h5⟩ := z
  exact ⟨l, q, cs, h0, h1, e _ _ h2, h3.ext e, h4, h5⟩) h
theorem rows3_offL {H H' : Hp} {p d : Addr} {es : List (Str × Rat)} {xs : List V} (h : Rows3 H p es) (hp : p ≠ d) (hd : H d = some (.lst xs)) (e : Off d H H') : Rows3 H' p es := by
  obtain ⟨ts, h1, h2⟩ := h
  exact ⟨ts, e _ _ h1 hp, row3_offL h2 hd e⟩
theorem trow_offL {c : Int} {ls : List Lk} {D : Addr} {H H' : Hp} {ts : List Addr} {is : List Nat} {xs : List V} (h : Paired (ToldRow c ls D H) ts is) (hd : H D = some (.lst xs)) (e : Off D H H') : Paired (ToldRow c ls D H') ts is := pmono (fun t i z => by
  obtain ⟨l, q, cs, h0, h1, h2, h3, h4, h5⟩ := z
  exact ⟨l, q, cs, h0, h1, e _ _ h2 (fun y => by rw [y, hd] at h2; cases h2), rows3_offL h3 h0 hd e, h4, h5⟩) h
/-- both lists of such rows are the same data -/
theorem trow_data {c : Int} {ls : List Lk} {D D' : Addr} {H : Hp} (hc : c.natAbs < 2 ^ 60) (hok : ∀ l ∈ ls, LkOk l) : ∀ {is : List Nat} {us vs : List Addr}, Paired (ToldRow c ls D H) us is → Paired (ToldRow c ls D' H) vs is →
    ∃ ds : List PyData, DpAll K H (us.map V.ref) ds ∧ DpAll K H (vs.map V.ref) ds ∧ ds.length = is.length ∧ ∀ d ∈ ds, Mild d 30000 3
  | [], _, _, .nil, .nil => ⟨[], .nil, .nil, rfl, fun _ h => absurd h List.not_mem_nil⟩
  | i :: is, _, _, .cons a1 b1, .cons a2 b2 => by
    obtain ⟨ds, h1, h2, h3, h4⟩ := trow_data hc hok b1 b2
    obtain ⟨l, q, cs, _, g1, g2, g3, g4, g5⟩ := a1
    obtain ⟨l', q', cs', _, k1, k2, k3, k4, k5⟩ := a2
    rw [g1] at k1
    cases k1
    have he : cs = cs' := g4.eq k4 fun n => by rw [g5, k5]
    subst he
    have hlm := hok l (List.mem_of_getElem? g1)
    have hcs : ∀ e ∈ cs, (∃ n, Small e.1 n ∧ n ≤ 100) ∧ Sz e.2 1900 := fun e he => by
      have hv := val_mem (n := e.1) g4.nd he
      have hne := g4.nz e he
      rw [← hv, g5] at hne
      unfold gain at hne
      have hokt : ∀ n, ∀ l ∈ ls.take n, LkOk l := fun n l hl => hok l (List.mem_of_mem_take hl)
      refine ⟨?_, ?_⟩
      · have hin : e.1 ∈ (costL c (ls.take (i + 1))).map (·.1) ∨ e.1 ∈ (costL c (ls.take i)).map (·.1) := Classical.byContradiction fun z => by
          rw [not_or] at z
          exact hne (by rw [val_miss z.1, val_miss z.2]; decide +kernel)
        have key : ∀ n, e.1 ∈ (costL c (ls.take n)).map (·.1) → Small e.1 6 := fun n hn => by
          unfold costL at hn
          split at hn
          · exact absurd hn List.not_mem_nil
          · rename_i l2 hl2
            rw [List.mem_singleton.mp hn]
            exact (hokt n l2 (List.mem_of_getLast? hl2)).c
        exact ⟨6, hin.elim (key _) (key _), by decide⟩
      · rw [← hv, g5]
        unfold gain
        have s1 := val_sz (n := e.1) (costL_sz hc (hokt (i + 1)))
        have s2 := val_sz (n := e.1) (costL_sz hc (hokt i))
        have lo1 := costL_one (c := c) (ls := ls.take (i + 1))
        have lo2 := costL_one (c := c) (ls := ls.take i)
        have h1 : (costL c (ls.take (i + 1))).length * (120 + 1) ≤ 1 * (120 + 1) := Nat.mul_le_mul_right _ lo1
        have h2 : (costL c (ls.take i)).length * (120 + 1) ≤ 1 * (120 + 1) := Nat.mul_le_mul_right _ lo2
        have sm : Sz (-1 : Rat) 1 := ⟨by decide +kernel, by decide +kernel⟩
        have e3 : val (costL c (ls.take (i + 1))) e.1 - val (costL c (ls.take i)) e.1 = val (costL c (ls.take (i + 1))) e.1 + val (costL c (ls.take i)) e.1 * (-1) := by grind
        rw [e3]
        exact (s1.add (s2.mul sm)).mono (by omega)
    have hl9 : cs.length ≤ 2 := by
      have := nodup_le (m := (costL c (ls.take (i + 1))).map (·.1) ++ (costL c (ls.take i)).map (·.1)) g4.nd fun n hn => by
        rw [g4.mem, g5] at hn
        unfold gain at hn
        exact Classical.byContradiction fun z => by
          rw [List.mem_append, not_or] at z
          exact hn (by rw [val_miss z.1, val_miss z.2]; decide +kernel)
      have lo1 := costL_one (c := c) (ls := ls.take (i + 1))
      have lo2 := costL_one (c := c) (ls := ls.take i)
      rw [List.length_map, List.length_append, List.length_map, List.length_map] at this
      omega
    refine ⟨.tuple [.str l.g, .list (cs.map row3D)] :: ds, .cons (.tup (ofT g2) (.cons (.str _) (.cons g3.dp .nil))) h1, .cons (.tup (ofT k2) (.cons (.str _) (.cons k3.dp .nil))) h2, by rw [List.length_cons, List.length_cons, h3], fun d hd => ?_⟩
    rcases List.mem_cons.mp hd with h | h
    · rw [h]
      have m1 : Mild (.list (cs.map row3D)) 13000 2 := (Mild.list (n := 6000) (k := 1) (m := 2) (fun d hd => by
        obtain ⟨e, he, rfl⟩ := List.mem_map.mp hd
        obtain ⟨⟨n, z1, z2⟩, z3⟩ := hcs e he
        exact Mild.row3 z1 z2 z3) (by rw [List.length_map]; exact hl9)).mono (by decide) (Nat.le_refl _)
      have m2 : Mild (.str l.g) 13000 2 := (Mild.str hlm.g).mono (by decide) (by decide)
      refine (Mild.tuple (n := 13000) (k := 2) (m := 2) (fun d hd => ?_) (Nat.le_refl _)).mono (by decide) (Nat.le_refl _)
      rcases List.mem_cons.mp hd with e | e
      · rw [e]
        exact m2
      · rw [List.mem_singleton.mp e]
        exact m1
    · exact h4 d h
def spToldAll (K : PySem.W.Frag) (C CP : Addr) : Sp := fun vs H Q _ => ∃ (c : Int) (p : Addr) (ls : List Lk) (ts : List Addr) (is : List Nat), vs = [.ref p] ∧ H p = some (.lst (ts.map V.ref)) ∧ Paired (FreshRow C CP c ls H) ts is ∧ is.length ≤ 100 ∧
  ∀ q us D H', Ext H H' → H' q = some (.lst (us.map V.ref)) → Paired (ToldRow c ls D H') us is → Q (.ref q) H'
theorem ok_l_told_all (T : Tx a K mg w) : FnOk P w K mg base CX0 5 a.f_l_told_all a.d_l_told_all ps_l_told_all (spToldAll K a.C_Purse a.C_Part) := by
  refine T.F_l_told_all.ok sc_l_told_all (fun vs H Q E h => ?_) (fun cdv A outer s H vs Q E hr h => ?_)
  · obtain ⟨c, p, ls, ts, is, rfl, _⟩ := h
    rfl
  · obtain ⟨c, p, ls, ts, is, rfl, hp, hT, hln, k⟩ := h
    have G_l_told := ok_l_told (P := P) (w := w) (base := base) T
    have B_l_told := bnd_l_told T
    have hr_l_told : Room 4 _ := hr.mono (by decide)
    refine ⟨_, (pss_cons (ps_if (PW.pt (pw_or (pt_not (pt_val (pe_callB call_isi (by rfl) T.no_isinstance (by decide +kernel) (pa_cons (pv 0) (pa_cons (pe_bltn (v := V.ty "list") (by rfl) T.no_list (by decide +kernel) rfl) pa_nil))))) (pw_or1 (pt_not (pt_val (pe_callB (cr_all rfl) (by rfl) T.no_all (by decide +kernel) (pa_cons (pe_lc (own := [("_law_row", 1)]) rfl sc_l_told_all.nd (pi_list (pv 0)) (blkOk_by (own := [("_law_row", 1)]) (N := N_l_told_all) (sc := defScope s_l_told_all) (by decide +kernel)) (fun _ _ _ _ _ => (pg_name (i := 1) sc_l_told_all.nd rfl (Or.inl rfl))) (fun _ _ _ _ _ => pts_nil) (fun _ _ _ _ _ => (pe_and (pe_callB (isiK (K := K) rfl) (by rfl) T.no_isinstance (by decide +kernel) (pa_cons (pv 1) (pa_cons (pe_bltn (v := V.ty "tuple") (by rfl) T.no_tuple (by decide +kernel) rfl) pa_nil))) (pe_one (pe_cmpR op_eq (pe_callB (lenK (K := K) rfl) (by rfl) T.no_len (by decide +kernel) (pa_cons (pv 1) pa_nil)) pe_int (nomark _)))))) pa_nil))))))) (pss_one (ps_ret pe_non)) pss_nil)
      (pss_one (ps_ret (pe_lc (own := [("_law_row", 1)]) rfl sc_l_told_all.nd (pi_list (pv 0)) (blkOk_by (own := [("_law_row", 1)]) (N := N_l_told_all) (sc := defScope s_l_told_all) (by decide +kernel)) (fun _ _ _ _ _ => (pg_name (i := 1) sc_l_told_all.nd rfl (Or.inl rfl))) (fun _ _ _ _ _ => pts_nil) (fun _ _ _ _ _ => (pe_tup (pa_cons (pe_ix (ixTK (K := K) rfl) (pv 1) pe_int (fun _ _ => rfl)) (pa_cons (pe_call G_l_told hr_l_told (by rfl) T.mg_l_told T.F_l_told.kp B_l_told .nil pass0 (pa_cons (pe_ix (ixTK (K := K) rfl) (pv 1) pe_int (fun _ _ => rfl)) pa_nil)) pa_nil)))))))), ?_⟩
    show tSeq _ _ _ [some (V.ref p), none] H
    have hz16 : sizeLine = 16777216 := rfl
    have htl : ts.length = is.length := Paired.length hT
    refine seq_i fun N hN => ?_
    simp only [tDNewK, tDIn, tDNotIn, tDGet, sDPut, rIxL, rIxT, rEq, rNe, rIsi, sFld, rSlL, rIn, rEqD, tYes, tCallN, tSeq, tIfS, tOp, tVar, tC, tCB, tCons, tNil, rI0, rI, tTest, tRet, tRetN, tNext, tAsg, gName, gNil, gCons, gTup, gUnl, tLst, tTup, tCall, tMeth, tMake, tUn, rU, tAndV, tOrV, tNotV, tAnd, tOr, tNot, tIf, tB, tFld, tDrop, tPar, tNever, tBM, rAppend, tSl, tPart, tNoPart, tM1, tyLst, List.getElem?_cons_zero, List.getElem?_cons_succ, Option.some.injEq, exists_eq_left', exists_eq_left, V.int.injEq, V.bl.injEq, V.str.injEq, V.ref.injEq, List.set_cons_zero, List.set_cons_succ, exists_and_left, exists_and_right, and_assoc, List.cons.injEq, and_true, true_and, List.cons_append, List.nil_append, List.append_nil, List.length_cons, List.length_nil, exists_eq', exists_eq, exists_const, exists_eq_right, exists_eq_right', cxK, Cx.nox, Cx.wish]
    refine ⟨_, _, .ty "list", .base (.lst hp), true, L2.kit_ty (by decide +kernel), iteF ?_⟩
    have ew : (wipe [some (V.ref p), none] (List.map (fun x => x.snd) [((Str.ofString "_law_row" : Str), 1)])) = [some (V.ref p), none] := rfl
    refine tLc_i (J := Itl K p) (fun R r => ⟨_, rfl, p, rfl, ⟨_, ofL hp⟩, r⟩) (walk_list (K := K) (a := p) (xs := ts.map V.ref)) fun D hD => ?_
    refine ⟨fun i H' => Ext H H' ∧ ∃ bs : List Bool, H' D = some (.lst (bs.map V.bl)) ∧ bs.all id = true ∧ bs.length = i, ⟨Ext.upd hD, [], upd_same, rfl, rfl⟩, fun i H' _ h => ofL (h.1 _ _ hp), ?_, ?_⟩
    · rintro i x H5 H6 hi ⟨e5, bs, fD, hb, hbl⟩ ⟨rfl, hx⟩
      rw [List.length_map] at hi
      obtain ⟨t, hti, rfl⟩ : ∃ t, ts[i]? = some t ∧ x = V.ref t := by
        rw [List.getElem?_map] at hx
        cases e : ts[i]? with
        | none => rw [e] at hx; cases hx
        | some t => rw [e] at hx; exact ⟨t, rfl, (Option.some.inj hx).symm⟩
      obtain ⟨j, hj, l, pp, d, gs, g1, g2, _⟩ := LiI.paired_get hT hti
      have g6 := e5 _ _ g2
      refine ⟨rfl, ?_⟩
      simp only [ew, tDNewK, tDIn, tDNotIn, tDGet, sDPut, rIxL, rIxT, rEq, rNe, rIsi, sFld, rSlL, rIn, rEqD, tYes, tCallN, tSeq, tIfS, tOp, tVar, tC, tCB, tCons, tNil, rI0, rI, tTest, tRet, tRetN, tNext, tAsg, gName, gNil, gCons, gTup, gUnl, tLst, tTup, tCall, tMeth, tMake, tUn, rU, tAndV, tOrV, tNotV, tAnd, tOr, tNot, tIf, tB, tFld, tDrop, tPar, tNever, tBM, rAppend, tSl, tPart, tNoPart, tM1, tyLst, List.getElem?_cons_zero, List.getElem?_cons_succ, Option.some.injEq, exists_eq_left', exists_eq_left, V.int.injEq, V.bl.injEq, V.str.injEq, V.ref.injEq, List.set_cons_zero, List.set_cons_succ, exists_and_left, exists_and_right, and_assoc, List.cons.injEq, and_true, true_and, List.cons_append, List.nil_append, List.append_nil, List.length_cons, List.length_nil, exists_eq', exists_eq, exists_const, exists_eq_right, exists_eq_right', cxK, Cx.nox, Cx.wish]
      rw [if_pos trivial]
      refine ⟨_, _, .ty "tuple", .base (.tup g6), true, L2.kit_ty (by decide +kernel), iteT ?_⟩
      refine ⟨_, .inr (ofT g6), rfl, ?_⟩
      refine ⟨_, fD, by rw [List.length_map]; omega, upd_ext e5 hD, bs ++ [true], by rw [upd_same, List.map_append]; rfl, by rw [List.all_append, hb]; rfl, by rw [List.length_append, hbl]; rfl⟩
    · rintro H5 ⟨e5, bs, fD, hb, _⟩
      refine ⟨D, bs, rfl, ofL fD, true, by rw [hb], iteF (hN _ _ ?_)⟩
      clear hN N
      have hp5 := e5 _ _ hp
      have hT5 := fresh_ext hT e5
      simp only [tDNewK, tDIn, tDNotIn, tDGet, sDPut, rIxL, rIxT, rEq, rNe, rIsi, sFld, rSlL, rIn, rEqD, tYes, tCallN, tSeq, tIfS, tOp, tVar, tC, tCB, tCons, tNil, rI0, rI, tTest, tRet, tRetN, tNext, tAsg, gName, gNil, gCons, gTup, gUnl, tLst, tTup, tCall, tMeth, tMake, tUn, rU, tAndV, tOrV, tNotV, tAnd, tOr, tNot, tIf, tB, tFld, tDrop, tPar, tNever, tBM, rAppend, tSl, tPart, tNoPart, tM1, tyLst, List.getElem?_cons_zero, List.getElem?_cons_succ, Option.some.injEq, exists_eq_left', exists_eq_left, V.int.injEq, V.bl.injEq, V.str.injEq, V.ref.injEq, List.set_cons_zero, List.set_cons_succ, exists_and_left, exists_and_right, and_assoc, List.cons.injEq, and_true, true_and, List.cons_append, List.nil_append, List.append_nil, List.length_cons, List.length_nil, exists_eq', exists_eq, exists_const, exists_eq_right, exists_eq_right', cxK, Cx.nox, Cx.wish]
      refine tLc_i (J := Itl K p) (fun R r => ⟨_, rfl, p, rfl, ⟨_, ofL hp5⟩, r⟩) (walk_list (K := K) (a := p) (xs := ts.map V.ref)) fun D2 hD2 => ?_
      refine ⟨fun i H' => Ext H5 H' ∧ ∃ us : List Addr, H' D2 = some (.lst (us.map V.ref)) ∧ us.length = i ∧ Paired (ToldRow c ls D2 H') us (is.take i), ⟨Ext.upd hD2, [], upd_same, rfl, .nil⟩, fun i H' _ h => ofL (h.1 _ _ hp5), ?_, ?_⟩
      · rintro i x H6 H7 hi ⟨e6, us, fD2, hul, hU⟩ ⟨rfl, hx⟩
        rw [List.length_map] at hi
        obtain ⟨t, hti, rfl⟩ : ∃ t, ts[i]? = some t ∧ x = V.ref t := by
          rw [List.getElem?_map] at hx
          cases e : ts[i]? with
          | none => rw [e] at hx; cases hx
          | some t => rw [e] at hx; exact ⟨t, rfl, (Option.some.inj hx).symm⟩
        obtain ⟨j, hj, l, pp, d, gs, g1, g2, g3, g4, g5⟩ := LiI.paired_get (fresh_ext hT5 e6) hti
        refine ⟨rfl, ?_⟩
        simp only [ew, tDNewK, tDIn, tDNotIn, tDGet, sDPut, rIxL, rIxT, rEq, rNe, rIsi, sFld, rSlL, rIn, rEqD, tYes, tCallN, tSeq, tIfS, tOp, tVar, tC, tCB, tCons, tNil, rI0, rI, tTest, tRet, tRetN, tNext, tAsg, gName, gNil, gCons, gTup, gUnl, tLst, tTup, tCall, tMeth, tMake, tUn, rU, tAndV, tOrV, tNotV, tAnd, tOr, tNot, tIf, tB, tFld, tDrop, tPar, tNever, tBM, rAppend, tSl, tPart, tNoPart, tM1, tyLst, List.getElem?_cons_zero, List.getElem?_cons_succ, Option.some.injEq, exists_eq_left', exists_eq_left, V.int.injEq, V.bl.injEq, V.str.injEq, V.ref.injEq, List.set_cons_zero, List.set_cons_succ, exists_and_left, exists_and_right, and_assoc, List.cons.injEq, and_true, true_and, List.cons_append, List.nil_append, List.append_nil, List.length_cons, List.length_nil, exists_eq', exists_eq, exists_const, exists_eq_right, exists_eq_right', cxK, Cx.nox, Cx.wish]
        rw [if_pos trivial]
        refine ⟨_, ofT g2, _, atI_0, _, ofT g2, _, atI_1, ?_⟩
        have hgl : gs.length ≤ 2 := by
          have := nodup_le (m := (costL c (ls.take (j + 1))).map (·.1) ++ (costL c (ls.take j)).map (·.1)) g4.nd fun n hn => by
            rw [g4.mem, g5] at hn
            unfold gain at hn
            exact Classical.byContradiction fun z => by
              rw [List.mem_append, not_or] at z
              exact hn (by rw [val_miss z.1, val_miss z.2]; decide +kernel)
          have lo1 := costL_one (c := c) (ls := ls.take (j + 1))
          have lo2 := costL_one (c := c) (ls := ls.take j)
          rw [List.length_map, List.length_append, List.length_map, List.length_map] at this
          omega
        refine ⟨pp, d, gs, rfl, g3, g4.nd, by omega, fun q H8 e8 nq h8 => ⟨by decide, fun pt hpt => ?_⟩⟩
        generalize hE : upd H8 pt _ = H9
        obtain ⟨e9, f9⟩ := alloc hpt hE
        have f99 := e9 _ _ (e8 _ _ fD2)
        have o9 : Off D2 H9 (upd H9 D2 (.lst (us.map V.ref ++ [V.ref pt]))) := Off.upd
        refine ⟨_, f99, by rw [List.length_map]; omega, upd_ext (e6.trans (e8.trans e9)) hD2, us ++ [pt], by rw [upd_same, List.map_append]; rfl, by rw [List.length_append, hul]; rfl, ?_⟩
        rw [take_snoc hj]
        exact trow_offL (Paired.snoc (trow_ext hU (e8.trans e9)) ⟨l, q, gs, ne_of_new nq fD2, g1, f9, h8.ext e9, g4, g5⟩) f99 o9
      · rintro H6 ⟨e6, us, fD2, hul, hU⟩
        rw [List.take_of_length_le (by rw [List.length_map]; omega)] at hU
        exact k D2 us D2 H6 (e5.trans e6) fD2 hU

end
end My

set_option Elab.async false
set_option maxRecDepth 100000
set_option maxHeartbeats 4000000
set_option linter.all false
namespace My
open PySem L2 Own
section
variable {P : Program} {w : World} {K : PySem.W.Frag} {mg : Str → Option Value} {base : Heap} {a : Adr}
/-! ### the law -/
theorem costL_nil' {kvs : List (Key × V)} (h : kvs = []) {ls : List Lk} : cutL kvs ls = ls := by
  subst h
  unfold cutL
  rw [List.filter_eq_self]
  intro l _
  unfold innerL
  rw [underD_none (by rfl)]
  rfl
theorem costL_last {c : Int} {ls ks : List Lk} (h : ls.getLast? = ks.getLast?) : costL c ls = costL c ks := by
  unfold costL
  rw [h]
theorem take_last {ls : List Lk} {n : Nat} {l : Lk} (h : ls[n]? = some l) : (ls.take (n + 1)).getLast? = some l := by
  rw [take_snoc h, List.getLast?_append]
  rfl
theorem cut_last {kvs : List (Key × V)} {ls : List Lk} : ∀ n, n ≤ ls.length → (cutL kvs (ls.take n)).getLast? = (ls.take (ffr kvs ls n)).getLast?
  | 0, _ => rfl
  | n + 1, h => by
    obtain ⟨l, hl⟩ : ∃ l, ls[n]? = some l := ⟨_, List.getElem?_eq_getElem (by omega : n < ls.length)⟩
    have e1 : cutL kvs (ls.take (n + 1)) = cutL kvs (ls.take n) ++ (if innerL kvs l = true then [] else [l]) := by
      unfold cutL
      rw [take_snoc hl, List.filter_append]
      congr 1
      rw [List.filter_cons]
      cases innerL kvs l <;> rfl
    cases hi : innerL kvs l with
    | true =>
      rw [e1, hi, ffr_step hl hi, if_pos rfl, List.append_nil]
      exact cut_last n (by omega)
    | false =>
      rw [e1, hi, ffr_stop hl hi, if_neg (by decide), take_last hl, List.getLast?_append]
      rfl
theorem ffr_pos {kvs : List (Key × V)} {l0 : Lk} {r : List Lk} (h : innerL kvs l0 = false) : ∀ n, 1 ≤ ffr kvs (l0 :: r) (n + 1)
  | 0 => by rw [ffr_stop (l := l0) rfl h]; exact Nat.le_refl _
  | n + 1 => by
    cases hl : (l0 :: r)[n + 1]? with
    | none =>
      unfold ffr
      rw [hl]
      exact Nat.succ_le_succ (Nat.zero_le _)
    | some l =>
      cases hi : innerL kvs l with
      | true =>
        rw [ffr_step hl hi]
        exact ffr_pos h n
      | false =>
        rw [ffr_stop hl hi]
        exact Nat.succ_le_succ (Nat.zero_le _)
theorem gain_rows {c : Int} {ls : List Lk} {i : Nat} {cs : List (Str × Rat)} (hc : c.natAbs < 2 ^ 60) (hok : ∀ l ∈ ls, LkOk l) (h : Canon cs) (hv : ∀ n, val cs n = gain c ls i n) : cs.length ≤ 2 ∧ ∀ x ∈ cs, Sz x.2 300 := by
  have hokt : ∀ n, ∀ l ∈ ls.take n, LkOk l := fun n l hl => hok l (List.mem_of_mem_take hl)
  have lo1 := costL_one (c := c) (ls := ls.take (i + 1))
  have lo2 := costL_one (c := c) (ls := ls.take i)
  refine ⟨?_, fun e he => ?_⟩
  · have := nodup_le (m := (costL c (ls.take (i + 1))).map (·.1) ++ (costL c (ls.take i)).map (·.1)) h.nd fun n hn => by
      rw [h.mem, hv] at hn
      unfold gain at hn
      exact Classical.byContradiction fun z => by
        rw [List.mem_append, not_or] at z
        exact hn (by rw [val_miss z.1, val_miss z.2]; decide +kernel)
    rw [List.length_map, List.length_append, List.length_map, List.length_map] at this
    omega
  · have hv2 := val_mem (n := e.1) h.nd he
    rw [← hv2, hv]
    unfold gain
    have s1 := val_sz (n := e.1) (costL_sz hc (hokt (i + 1)))
    have s2 := val_sz (n := e.1) (costL_sz hc (hokt i))
    have h1 : (costL c (ls.take (i + 1))).length * (120 + 1) ≤ 1 * (120 + 1) := Nat.mul_le_mul_right _ lo1
    have h2 : (costL c (ls.take i)).length * (120 + 1) ≤ 1 * (120 + 1) := Nat.mul_le_mul_right _ lo2
    have sm : Sz (-1 : Rat) 1 := ⟨by decide +kernel, by decide +kernel⟩
    have e3 : val (costL c (ls.take (i + 1))) e.1 - val (costL c (ls.take i)) e.1 = val (costL c (ls.take (i + 1))) e.1 + val (costL c (ls.take i)) e.1 * (-1) := by grind
    rw [e3]
    exact (s1.add (s2.mul sm)).mono (by omega)
theorem Off.ext_new {d : Addr} {H H1 H2 : Hp} (e : Ext H H1) (hd : H d = none) (h : Off d H1 H2) : Ext H H2 := fun b o hb => h b o (e _ _ hb) fun z => by rw [z, hd] at hb; cases hb
theorem trow_new {c : Int} {ls : List Lk} {D d : Addr} {H H' : Hp} {ts : List Addr} {is : List Nat} {kvs : List (Key × V)} (h : Paired (ToldRow c ls D H) ts is) (hd : H d = some (.dK kvs)) (e : Off d H H') : Paired (ToldRow c ls D H') ts is := pmono (fun t i z => by
  obtain ⟨l, q, cs, h0, h1, h2, ⟨us, h3, h6⟩, h4, h5⟩ := z
  refine ⟨l, q, cs, h0, h1, e _ _ h2 (fun y => by rw [y, hd] at h2; cases h2), ⟨us, e _ _ h3 (fun y => by rw [y, hd] at h3; cases h3), pmono (fun t r z => ?_) h6⟩, h4, h5⟩
  exact e _ _ z fun y => by rw [Own.Row3, y, hd] at z; cases z) h
def spLaw (K : PySem.W.Frag) : Sp := fun vs H Q _ => ∃ (l : Addr) (ns : List Int), vs = [.ref l] ∧ SqL K H l (ns.map V.int) ∧ ns.length ≤ 63 ∧ ∀ H', Q (.bl true) H'
theorem ok_law (T : Tx a K mg w) : FnG P w K mg base CX0 9 a.f_law a.d_law ps_law (spLaw K) := by
  refine okG T.F_law sc_law (fun vs H Q E h => ?_) (fun cdv A outer s H vs Q E hgd hr h => ?_)
  · obtain ⟨l, ns, rfl, _⟩ := h
    rfl
  · obtain ⟨l, ns, rfl, hs, hn, q⟩ := h
    have hu := hu_of hr
    have G_l_digits := ok_l_digits (P := P) (w := w) (base := base) T
    have B_l_digits := bnd_l_digits T
    have hr_l_digits : Room 2 _ := hr.mono (by decide)
    have G_l_names := ok_l_names (P := P) (w := w) (base := base) T
    have B_l_names := bnd_l_names T
    have hr_l_names : Room 3 _ := hr.mono (by decide)
    have G_l_path := ok_l_path (P := P) (w := w) (base := base) T
    have B_l_path := bnd_l_path T
    have hr_l_path : Room 3 _ := hr.mono (by decide)
    have G_l_since := ok_l_since (P := P) (w := w) (base := base) T
    have B_l_since := bnd_l_since T
    have hr_l_since : Room 3 _ := hr.mono (by decide)
    have G_l_inner := ok_l_inner (P := P) (w := w) (base := base) T
    have B_l_inner := bnd_l_inner T
    have hr_l_inner : Room 1 _ := hr.mono (by decide)
    have G_l_add := ok_l_add (P := P) (w := w) (base := base) T
    have B_l_add := bnd_l_add T
    have hr_l_add : Room 3 _ := hr.mono (by decide)
    have G_l_due := ok_l_due (P := P) (w := w) (base := base) T
    have B_l_due := bnd_l_due T
    have hr_l_due : Room 1 _ := hr.mono (by decide)
    have G_l_told_all := ok_l_told_all (P := P) (w := w) (base := base) T
    have B_l_told_all := bnd_l_told_all T
    have hr_l_told_all : Room 5 _ := hr.mono (by decide)
    have G_l_same := ok_l_same (P := P) (w := w) (base := base) T
    have B_l_same := bnd_l_same T
    have hr_l_same : Room 2 _ := hr.mono (by decide)
    have G_fresh := ok_fresh (P := P) (w := w) (base := base) T
    have B_fresh := bnd_fresh T
    have hr_fresh : Room 8 _ := hr.mono (by decide)
    have G_cost := ok_cost (P := P) (w := w) (base := base) T
    obtain ⟨_, D_cost, B_cost⟩ := bnd_cost T
    obtain ⟨_, KB_cost_since⟩ := kbn_cost_since T
    have hr_cost : Room 7 _ := hr.mono (by decide)
    have G_Purse_plus := ok_Purse_plus (P := P) (w := w) (base := base) T
    have B_Purse_plus := bnd_Purse_plus T
    have hr_Purse_plus : Room 6 _ := hr.mono (by decide)
    have G_Purse_eq := ok_Purse_eq (P := P) (w := w) (base := base) T
    have B_Purse_eq := bnd_Purse_eq T
    have hr_Purse_eq : Room 3 _ := hr.mono (by decide)
    refine ⟨_, (pss_cons (ps_set (i := 0) sc_law.nd rfl (by first | exact Or.inl rfl | exact Or.inr rfl) (pe_slice sl_list (pv 0) po_none (po_some pe_int)))
      (pss_cons (ps_set (i := 1) sc_law.nd rfl (by first | exact Or.inl rfl | exact Or.inr rfl) (pe_call G_l_names hr_l_names (by rfl) T.mg_l_names T.F_l_names.kp B_l_names .nil pass0 (pa_cons (pv 0) (pa_cons pe_int (pa_cons pe_int pa_nil)))))
      (pss_cons (ps_for PassesOwn.never rfl (pi_range1 rfl T.no_range (pa_cons pe_int pa_nil)) (pg_name (i := 2) sc_law.nd rfl (by first | exact Or.inl rfl | exact Or.inr rfl))
        (pss_cons (ps_asg (pe_call G_l_digits hr_l_digits (by rfl) T.mg_l_digits T.F_l_digits.kp B_l_digits .nil pass0 (pa_cons (pv 0) (pa_cons (pe_op op_add pe_int (pe_op op_mulW pe_int (pv 2))) (pa_cons (pe_lst (pa_cons pe_int (pa_cons pe_int (pa_cons pe_int pa_nil)))) pa_nil)))) (pg_unl rfl (pgs_cons (pg_name (i := 3) sc_law.nd rfl (by first | exact Or.inl rfl | exact Or.inr rfl)) (pgs_cons (pg_name (i := 4) sc_law.nd rfl (by first | exact Or.inl rfl | exact Or.inr rfl)) (pgs_cons (pg_name (i := 5) sc_law.nd rfl (by first | exact Or.inl rfl | exact Or.inr rfl)) pgs_nil))) (by rfl)))
        (pss_cons (ps_set (i := 6) sc_law.nd rfl (by first | exact Or.inl rfl | exact Or.inr rfl) (pe_call G_l_path hr_l_path (by rfl) T.mg_l_path T.F_l_path.kp B_l_path .nil pass0 (pa_cons (pv 0) (pa_cons (pe_op op_add pe_int (pe_op op_mulW pe_int (pv 2))) (pa_cons (pv 1) (pa_cons (pe_op op_add pe_int (pv 3)) pa_nil))))))
        (pss_cons (ps_set (i := 7) sc_law.nd rfl (by first | exact Or.inl rfl | exact Or.inr rfl) (pe_call G_l_since hr_l_since (by rfl) T.mg_l_since T.F_l_since.kp B_l_since .nil pass0 (pa_cons (pv 0) (pa_cons (pe_op op_add pe_int (pe_op op_mulW pe_int (pv 2))) (pa_cons (pv 1) pa_nil)))))
        (pss_cons (ps_if (pt_cmpR op_eq (pv 5) pe_int (nomark _)) (pss_one (ps_for PassesOwn.never rfl (pi_list (pv 1)) (pg_name (i := 8) sc_law.nd rfl (by first | exact Or.inl rfl | exact Or.inr rfl))
            (pss_one (ps_dput hu (pv 7) (pv 8) pe_int rfl)))) pss_nil)
        (pss_cons (ps_setLc (i := 10) (own := [("_law_j", 9)]) rfl sc_law.nd rfl rfl (sw_true rfl rfl rfl (by decide +kernel)) (pi_range1 rfl T.no_range (pa_cons (pe_callB call_len_seq (by rfl) T.no_len (by decide +kernel) (pa_cons (pv 6) pa_nil)) pa_nil)) (blkOk_by (own := [("_law_j", 9)]) (N := N_law) (sc := defScope s_law) (by decide +kernel)) (fun _ _ _ _ _ => (pg_name (i := 9) sc_law.nd rfl (Or.inl rfl))) (fun _ _ _ _ _ => (pts_one (pt_not (pt_val (pe_call G_l_inner hr_l_inner (by rfl) T.mg_l_inner T.F_l_inner.kp B_l_inner .nil pass0 (pa_cons (pe_ix (ixTK (K := K) rfl) (pv 6) (pv 9) (fun _ _ => rfl)) (pa_cons (pv 7) pa_nil))))))) (fun _ _ _ _ _ => (pv 9)))
        (pss_cons (ps_set (i := 11) sc_law.nd rfl (by first | exact Or.inl rfl | exact Or.inr rfl) (pe_lst pa_nil))
        (pss_cons (ps_for PassesOwn.never rfl (pi_range2 rfl T.no_range (pa_cons (pe_op op_add (pe_ix ix_list (pv 10) (pe_un un_neg pe_int) (fun _ _ => rfl)) pe_int) (pa_cons (pe_callB call_len_seq (by rfl) T.no_len (by decide +kernel) (pa_cons (pv 6) pa_nil)) pa_nil))) (pg_name (i := 9) sc_law.nd rfl (by first | exact Or.inl rfl | exact Or.inr rfl))
          (pss_cons (ps_set (i := 12) sc_law.nd rfl (by first | exact Or.inl rfl | exact Or.inr rfl) pe_dnewK)
          (pss_cons (ps_expr (pe_call G_l_add hr_l_add (by rfl) T.mg_l_add T.F_l_add.kp B_l_add .nil pass0 (pa_cons (pv 12) (pa_cons (pe_ix ix_tup (pe_ix ix_tup (pv 6) (pv 9) (fun _ _ => rfl)) pe_int (fun _ _ => rfl)) (pa_cons (pe_op op_mulW (pe_op op_add pe_int (pv 4)) (pe_ix ix_tup (pe_ix ix_tup (pv 6) (pv 9) (fun _ _ => rfl)) pe_int (fun _ _ => rfl))) (pa_cons (pe_ix ix_tup (pe_ix ix_tup (pv 6) (pv 9) (fun _ _ => rfl)) pe_int (fun _ _ => rfl)) pa_nil))))))
          (pss_cons (ps_expr (pe_call G_l_add hr_l_add (by rfl) T.mg_l_add T.F_l_add.kp B_l_add .nil pass0 (pa_cons (pv 12) (pa_cons (pe_ix ix_tup (pe_ix ix_tup (pv 6) (pe_op op_sub (pv 9) pe_int) (fun _ _ => rfl)) pe_int (fun _ _ => rfl)) (pa_cons (pe_op op_sub pe_int (pe_op op_mulW (pe_op op_add pe_int (pv 4)) (pe_ix ix_tup (pe_ix ix_tup (pv 6) (pe_op op_sub (pv 9) pe_int) (fun _ _ => rfl)) pe_int (fun _ _ => rfl)))) (pa_cons (pe_ix ix_tup (pe_ix ix_tup (pv 6) (pe_op op_sub (pv 9) pe_int) (fun _ _ => rfl)) pe_int (fun _ _ => rfl)) pa_nil))))))
          (pss_one (ps_expr (pe_bm PySem.F.plainAttrs_list PySem.F.slot_list_append PySem.F.type_list_append mt_append (pv 11) (pa_cons (pe_tup (pa_cons (pe_ix ix_tup (pe_ix ix_tup (pv 6) (pv 9) (fun _ _ => rfl)) pe_int (fun _ _ => rfl)) (pa_cons (pe_call G_l_due hr_l_due (by rfl) T.mg_l_due T.F_l_due.kp B_l_due .nil pass0 (pa_cons (pv 12) pa_nil)) pa_nil))) pa_nil))))))))
        (pss_cons (ps_set (i := 13) sc_law.nd rfl (by first | exact Or.inl rfl | exact Or.inr rfl) (pe_callTy call_dictD (by rfl) T.no_dict (by decide +kernel) (pa_cons (pv 7) pa_nil)))
        (pss_cons (ps_set (i := 14) sc_law.nd rfl (by first | exact Or.inl rfl | exact Or.inr rfl) (pe_call G_fresh hr_fresh (by rfl) T.mg_fresh T.F_fresh.kp B_fresh .nil pass0 (pa_cons (pe_op op_add pe_int (pv 4)) (pa_cons (pv 6) (pa_cons (pv 13) pa_nil)))))
        (pss_cons (ps_if (PW.pt (pw_or (pt_not (pt_val (pe_callG G_l_same hgd hr_l_same (by rfl) T.mg_l_same T.F_l_same.kp B_l_same pass0 (pa_cons (pe_call G_l_told_all hr_l_told_all (by rfl) T.mg_l_told_all T.F_l_told_all.kp B_l_told_all .nil pass0 (pa_cons (pv 14) pa_nil)) (pa_cons (pv 11) pa_nil))))) (pw_or1 (pt_cmpR (op_ne_dictA (Nat.lt_of_succ_lt hu)) (pv 13) (pv 7) (nomark _))))) (pss_one (ps_ret pe_bl)) pss_nil)
        (pss_cons (ps_set (i := 15) sc_law.nd rfl (by first | exact Or.inl rfl | exact Or.inr rfl) (pe_callN G_cost hr_cost (by rfl) T.mg_cost T.F_cost.kp KB_cost_since pass0 (pa_cons (pe_op op_add pe_int (pv 4)) (pa_cons (pv 6) pa_nil)) (pk_cons (pv 7) pk_nil)))
        (pss_cons (ps_for PassesOwn.never rfl (pi_list (pv 14)) (pg_tup rfl (pgs_cons (pg_name (i := 16) sc_law.nd rfl (by first | exact Or.inl rfl | exact Or.inr rfl)) (pgs_cons (pg_name (i := 17) sc_law.nd rfl (by first | exact Or.inl rfl | exact Or.inr rfl)) pgs_nil)) (by rfl))
          (pss_one (ps_set (i := 15) sc_law.nd rfl (by first | exact Or.inl rfl | exact Or.inr rfl) (pe_meth (pv 15) T.cl_Purse T.m_Purse_plus G_Purse_plus hr_Purse_plus B_Purse_plus .nil pass0 (pa_cons (pv 17) pa_nil)))))
        (pss_one (ps_if (pt_not (pt_cmpR (op_eq_own G_Purse_eq hr_Purse_eq B_Purse_eq pass0 T.m_Purse_eq.at_ T.m_Purse_eq.fn) (pv 15) (pe_call G_cost hr_cost (by rfl) T.mg_cost T.F_cost.kp B_cost D_cost pass0 (pa_cons (pe_op op_add pe_int (pv 4)) (pa_cons (pv 6) pa_nil))) (nomark _))) (pss_one (ps_ret pe_bl)) pss_nil)))))))))))))))
      (pss_one (ps_ret pe_bl))))), ?_⟩
    show tSeq _ _ _ [some (V.ref l), none, none, none, none, none, none, none, none, none, none, none, none, none, none, none, none, none] H
    have hz16 : sizeLine = 16777216 := rfl
    refine seq_i fun N hN => ?_
    simp only [tDNewK, tDIn, tDNotIn, tDGet, sDPut, rIxL, rIxT, rEq, rNe, rIsi, sFld, rSlL, rIn, rEqD, tYes, tCallN, tSeq, tIfS, tOp, tVar, tC, tCB, tCons, tNil, rI0, rI, tTest, tRet, tRetN, tNext, tAsg, gName, gNil, gCons, gTup, gUnl, tLst, tTup, tCall, tMeth, tMake, tUn, rU, tAndV, tOrV, tNotV, tAnd, tOr, tNot, tIf, tB, tFld, tDrop, tPar, tNever, tBM, rAppend, tSl, tPart, tNoPart, tM1, tyLst, List.getElem?_cons_zero, List.getElem?_cons_succ, Option.some.injEq, exists_eq_left', exists_eq_left, V.int.injEq, V.bl.injEq, V.str.injEq, V.ref.injEq, List.set_cons_zero, List.set_cons_succ, exists_and_left, exists_and_right, and_assoc, List.cons.injEq, and_true, true_and, List.cons_append, List.nil_append, List.append_nil, List.length_cons, List.length_nil, exists_eq', exists_eq, exists_const, exists_eq_right, exists_eq_right', cxK, Cx.nox, Cx.wish]
    refine ⟨_, hs, fun p0 hp0 => ?_⟩
    obtain ⟨ms, em, hm⟩ := cut_ints ns none (some 63)
    rw [em]
    generalize hH0 : upd H p0 _ = H0
    obtain ⟨_, f0⟩ := alloc hp0 hH0
    clear hH0
    refine hN _ _ ?_
    clear hN N
    have s0 : SqL K H0 p0 (ms.map V.int) := ofL f0
    refine seq_i fun N hN => ?_
    simp only [tDNewK, tDIn, tDNotIn, tDGet, sDPut, rIxL, rIxT, rEq, rNe, rIsi, sFld, rSlL, rIn, rEqD, tYes, tCallN, tSeq, tIfS, tOp, tVar, tC, tCB, tCons, tNil, rI0, rI, tTest, tRet, tRetN, tNext, tAsg, gName, gNil, gCons, gTup, gUnl, tLst, tTup, tCall, tMeth, tMake, tUn, rU, tAndV, tOrV, tNotV, tAnd, tOr, tNot, tIf, tB, tFld, tDrop, tPar, tNever, tBM, rAppend, tSl, tPart, tNoPart, tM1, tyLst, List.getElem?_cons_zero, List.getElem?_cons_succ, Option.some.injEq, exists_eq_left', exists_eq_left, V.int.injEq, V.bl.injEq, V.str.injEq, V.ref.injEq, List.set_cons_zero, List.set_cons_succ, exists_and_left, exists_and_right, and_assoc, List.cons.injEq, and_true, true_and, List.cons_append, List.nil_append, List.append_nil, List.length_cons, List.length_nil, exists_eq', exists_eq, exists_const, exists_eq_right, exists_eq_right', cxK, Cx.nox, Cx.wish]
    refine ⟨p0, ms, 0, 5, rfl, s0, by omega, by decide, by decide, by decide, by decide, fun zs pn H1 hzs hzl e1 f1 _ => ?_⟩
    refine hN _ _ ?_
    clear hN N
    have s1 := seqL s0 e1
    have n1 : SqL K H1 pn (zs.map V.str) := ofL f1
    have hzl : zs.length = 5 := by omega
    clear s0 f0 e1 f1 hp0 em hs
    refine seq_i fun N hN => ?_
    refine for_rangeI (n := 4) (fun R r => r) (by decide) (by decide) (fun i σ H' => (∃ v2 v3 v4 v5 v6 v7 v8 v9 v10 v11 v12 v13 v14 v15 v16 v17, σ = [some (V.ref p0), some (V.ref pn), v2, v3, v4, v5, v6, v7, v8, v9, v10, v11, v12, v13, v14, v15, v16, v17]) ∧ SqL K H' p0 (ms.map V.int) ∧ SqL K H' pn (zs.map V.str))
      ⟨⟨_, _, _, _, _, _, _, _, _, _, _, _, _, _, _, _, rfl⟩, s1, n1⟩ ?_ ?_
    · rintro i σ H2 hi ⟨⟨v2, v3, v4, v5, v6, v7, v8, v9, v10, v11, v12, v13, v14, v15, v16, v17, rfl⟩, s2, n2⟩
      clear s1 n1 hN
      have hi : i < 4 := hi
      show tSeq _ _ _ [some (V.ref p0), some (V.ref pn), some (V.int (0 + (i : Int))), v3, v4, v5, v6, v7, v8, v9, v10, v11, v12, v13, v14, v15, v16, v17] H2
      refine seq_i fun N2 hN2 => ?_
      simp only [tDNewK, tDIn, tDNotIn, tDGet, sDPut, rIxL, rIxT, rEq, rNe, rIsi, sFld, rSlL, rIn, rEqD, tYes, tCallN, tSeq, tIfS, tOp, tVar, tC, tCB, tCons, tNil, rI0, rI, tTest, tRet, tRetN, tNext, tAsg, gName, gNil, gCons, gTup, gUnl, tLst, tTup, tCall, tMeth, tMake, tUn, rU, tAndV, tOrV, tNotV, tAnd, tOr, tNot, tIf, tB, tFld, tDrop, tPar, tNever, tBM, rAppend, tSl, tPart, tNoPart, tM1, tyLst, List.getElem?_cons_zero, List.getElem?_cons_succ, Option.some.injEq, exists_eq_left', exists_eq_left, V.int.injEq, V.bl.injEq, V.str.injEq, V.ref.injEq, List.set_cons_zero, List.set_cons_succ, exists_and_left, exists_and_right, and_assoc, List.cons.injEq, and_true, true_and, List.cons_append, List.nil_append, List.append_nil, List.length_cons, List.length_nil, exists_eq', exists_eq, exists_const, exists_eq_right, exists_eq_right', cxK, Cx.nox, Cx.wish]
      refine ⟨mulW64 (by decide) (by omega), by decide, fun pz hpz => ?_⟩
      generalize hH3 : upd H2 pz _ = H3
      obtain ⟨e3, f3⟩ := alloc hpz hH3
      refine ⟨p0, pz, ms, [9, 9973, 3], _, rfl, seqL s2 e3, by omega, by omega, by omega, ofL f3, (by decide), (by decide), fun ds pd hd hpd => ?_⟩
      obtain ⟨size, much, lean, rfl, ⟨a0, a1⟩, ⟨b0, b1⟩, ⟨c0, c1⟩⟩ := drawn3 hd
      generalize hH4 : upd H3 pd _ = H4
      obtain ⟨e4, f4⟩ := alloc hpd hH4
      refine ⟨pd, rfl, _, ofL f4, rfl, ?_⟩
      simp only [List.map_cons, List.map_nil, tDNewK, tDIn, tDNotIn, tDGet, sDPut, rIxL, rIxT, rEq, rNe, rIsi, sFld, rSlL, rIn, rEqD, tYes, tCallN, tSeq, tIfS, tOp, tVar, tC, tCB, tCons, tNil, rI0, rI, tTest, tRet, tRetN, tNext, tAsg, gName, gNil, gCons, gTup, gUnl, tLst, tTup, tCall, tMeth, tMake, tUn, rU, tAndV, tOrV, tNotV, tAnd, tOr, tNot, tIf, tB, tFld, tDrop, tPar, tNever, tBM, rAppend, tSl, tPart, tNoPart, tM1, tyLst, List.getElem?_cons_zero, List.getElem?_cons_succ, Option.some.injEq, exists_eq_left', exists_eq_left, V.int.injEq, V.bl.injEq, V.str.injEq, V.ref.injEq, List.set_cons_zero, List.set_cons_succ, exists_and_left, exists_and_right, and_assoc, List.cons.injEq, and_true, true_and, List.cons_append, List.nil_append, List.append_nil, List.length_cons, List.length_nil, exists_eq', exists_eq, exists_const, exists_eq_right, exists_eq_right', cxK, Cx.nox, Cx.wish]
      refine hN2 _ _ ?_
      clear hN2 N2
      have s4 := seqL s2 (e3.trans e4)
      have n4 := seqL n2 (e3.trans e4)
      clear hH3 hH4 e3 e4 f3 f4 hpz hpd hd s2 n2
      -- the path
      refine seq_i fun N2 hN2 => ?_
      simp only [tDNewK, tDIn, tDNotIn, tDGet, sDPut, rIxL, rIxT, rEq, rNe, rIsi, sFld, rSlL, rIn, rEqD, tYes, tCallN, tSeq, tIfS, tOp, tVar, tC, tCB, tCons, tNil, rI0, rI, tTest, tRet, tRetN, tNext, tAsg, gName, gNil, gCons, gTup, gUnl, tLst, tTup, tCall, tMeth, tMake, tUn, rU, tAndV, tOrV, tNotV, tAnd, tOr, tNot, tIf, tB, tFld, tDrop, tPar, tNever, tBM, rAppend, tSl, tPart, tNoPart, tM1, tyLst, List.getElem?_cons_zero, List.getElem?_cons_succ, Option.some.injEq, exists_eq_left', exists_eq_left, V.int.injEq, V.bl.injEq, V.str.injEq, V.ref.injEq, List.set_cons_zero, List.set_cons_succ, exists_and_left, exists_and_right, and_assoc, List.cons.injEq, and_true, true_and, List.cons_append, List.nil_append, List.append_nil, List.length_cons, List.length_nil, exists_eq', exists_eq, exists_const, exists_eq_right, exists_eq_right', cxK, Cx.nox, Cx.wish]
      refine ⟨mulW64 (by decide) (by omega), p0, pn, ms, _, _, zs, rfl, s4, by omega, by omega, by omega, n4, hzs, hzl, by omega, by omega, fun pp ls H5 e5 hP hll hok hfst => hN2 _ _ ?_⟩
      clear hN2 N2
      have s5 := seqL s4 e5
      have n5 := seqL n4 e5
      clear s4 n4 e5
      -- since-days
      refine seq_i fun N2 hN2 => ?_
      simp only [tDNewK, tDIn, tDNotIn, tDGet, sDPut, rIxL, rIxT, rEq, rNe, rIsi, sFld, rSlL, rIn, rEqD, tYes, tCallN, tSeq, tIfS, tOp, tVar, tC, tCB, tCons, tNil, rI0, rI, tTest, tRet, tRetN, tNext, tAsg, gName, gNil, gCons, gTup, gUnl, tLst, tTup, tCall, tMeth, tMake, tUn, rU, tAndV, tOrV, tNotV, tAnd, tOr, tNot, tIf, tB, tFld, tDrop, tPar, tNever, tBM, rAppend, tSl, tPart, tNoPart, tM1, tyLst, List.getElem?_cons_zero, List.getElem?_cons_succ, Option.some.injEq, exists_eq_left', exists_eq_left, V.int.injEq, V.bl.injEq, V.str.injEq, V.ref.injEq, List.set_cons_zero, List.set_cons_succ, exists_and_left, exists_and_right, and_assoc, List.cons.injEq, and_true, true_and, List.cons_append, List.nil_append, List.append_nil, List.length_cons, List.length_nil, exists_eq', exists_eq, exists_const, exists_eq_right, exists_eq_right', cxK, Cx.nox, Cx.wish]
      refine ⟨mulW64 (by decide) (by omega), p0, pn, ms, _, zs, rfl, s5, by omega, by omega, by omega, n5, hzl, fun pu kvs H6 e6 _ u6 hU hI hkl hkn => hN2 _ _ ?_⟩
      clear hN2 N2
      have s6 := seqL s5 e6
      have n6 := seqL n5 e6
      have hP6 := hP.ext e6
      clear s5 n5 e6 hP
      -- lean
      refine seq_i fun N2 hN2 => ?_
      have merge : ∀ (v8 : Option V) (H7 : Hp) (kvs : List (Key × V)), SqL K H7 p0 (ms.map V.int) → SqL K H7 pn (zs.map V.str) → PathAt K H7 pp ls → H7 pu = some (.dK kvs) → Uniq kvs → AllV IsI kvs → kvs.length ≤ 10 → (∀ p ∈ kvs, ∃ z ∈ zs, p.1 = Sum.inr z) →
          N2 [some (V.ref p0), some (V.ref pn), some (V.int (0 + (i : Int))), some (V.int size), some (V.int much), some (V.int lean), some (V.ref pp), some (V.ref pu), v8, v9, v10, v11, v12, v13, v14, v15, v16, v17] H7 := by
        clear s6 n6 hP6 u6 hU hI hkl hkn kvs H6
        intro v8 H7 kvs s7 n7 hP7 u7 hU hI hkl hkn
        refine hN2 _ _ ?_
        clear hN2 N2
        refine seq_i fun N2 hN2 => ?_
        simp only [tDNewK, tDIn, tDNotIn, tDGet, sDPut, rIxL, rIxT, rEq, rNe, rIsi, sFld, rSlL, rIn, rEqD, tYes, tCallN, tSeq, tIfS, tOp, tVar, tC, tCB, tCons, tNil, rI0, rI, tTest, tRet, tRetN, tNext, tAsg, gName, gNil, gCons, gTup, gUnl, tLst, tTup, tCall, tMeth, tMake, tUn, rU, tAndV, tOrV, tNotV, tAnd, tOr, tNot, tIf, tB, tFld, tDrop, tPar, tNever, tBM, rAppend, tSl, tPart, tNoPart, tM1, tyLst, List.getElem?_cons_zero, List.getElem?_cons_succ, Option.some.injEq, exists_eq_left', exists_eq_left, V.int.injEq, V.bl.injEq, V.str.injEq, V.ref.injEq, List.set_cons_zero, List.set_cons_succ, exists_and_left, exists_and_right, and_assoc, List.cons.injEq, and_true, true_and, List.cons_append, List.nil_append, List.append_nil, List.length_cons, List.length_nil, exists_eq', exists_eq, exists_const, exists_eq_right, exists_eq_right', cxK, Cx.nox, Cx.wish]
        have hfst1 : 1 ≤ ffr kvs ls ls.length := by
          obtain ⟨l0, r, hls, hg⟩ := hfst
          have he : valV kvs (Sum.inr (Str.ofString "")) = none := by
            cases z : valV kvs (Sum.inr (Str.ofString "")) with
            | none => rfl
            | some v =>
              obtain ⟨p, hp, h1, _⟩ := mem_of_val z
              obtain ⟨y, hy, h2⟩ := hkn p hp
              exact absurd (Sum.inr.inj (h2.symm.trans h1)) (hzs.ne hy)
          subst hls
          refine ffr_pos ?_ _
          unfold innerL
          rw [hg, underD_none he]
          rfl
        have hfle := ffr_le (kvs := kvs) (ls := ls) ls.length
        have hcb : (1 + much).natAbs < 2 ^ 60 := by omega
        have hll10 : ls.length ≤ 10 := by omega
        obtain ⟨ts, hpp, hT⟩ := hP7
        have htl : ts.length = ls.length := Paired.length hT
        have hU' := hU
        -- places
        refine tLc_i (J := Itr 0 ls.length) (H1 := H7) (fun R r => ?_) walk_range fun D hD => ?_
        · refine ⟨_, rfl, pp, rfl, _, .inr hpp, _, rfl, ?_, ?_⟩
          · rw [List.length_map]
            omega
          · rw [List.length_map, htl]
            exact ⟨by omega, r⟩
        refine ⟨fun i H' => Ext H7 H' ∧ ∃ is : List Int, H' D = some (.lst (is.map V.int)) ∧ is.length ≤ i ∧ (ffr kvs ls i = 0 ∨ is.getLast? = some (((ffr kvs ls i : Nat) : Int) - 1)), ⟨Ext.upd hD, [], upd_same, Nat.le_refl _, .inl rfl⟩, fun _ _ _ _ => trivial, ?_, ?_⟩
        · rintro j x H8 H9 hj ⟨e8, is, fD, hil, hlast⟩ ⟨rfl, rfl⟩
          obtain ⟨l, hl⟩ : ∃ l, ls[j]? = some l := ⟨_, List.getElem?_eq_getElem hj⟩
          obtain ⟨t, ht⟩ : ∃ t, ts[j]? = some t := ⟨_, List.getElem?_eq_getElem (by omega : j < ts.length)⟩
          obtain ⟨l', hl', hlk⟩ := LiI.paired_get hT ht
          rw [hl] at hl'
          cases hl'
          have hat : atI (ts.map V.ref) (0 + (j : Int)) = some (V.ref t) := by
            rw [Int.zero_add]
            exact atI_map (Own.atI_nat ht)
          have ew : (wipe [some (V.ref p0), some (V.ref pn), some (V.int (0 + (i : Int))), some (V.int size), some (V.int much), some (V.int lean), some (V.ref pp), some (V.ref pu), v8, v9, v10, v11, v12, v13, v14, v15, v16, v17] (List.map (fun x => x.snd) [((Str.ofString "_law_j" : Str), 9)])) = [some (V.ref p0), some (V.ref pn), some (V.int (0 + (i : Int))), some (V.int size), some (V.int much), some (V.int lean), some (V.ref pp), some (V.ref pu), v8, none, v10, v11, v12, v13, v14, v15, v16, v17] := rfl
          refine ⟨rfl, ?_⟩
          simp only [ew, tDNewK, tDIn, tDNotIn, tDGet, sDPut, rIxL, rIxT, rEq, rNe, rIsi, sFld, rSlL, rIn, rEqD, tYes, tCallN, tSeq, tIfS, tOp, tVar, tC, tCB, tCons, tNil, rI0, rI, tTest, tRet, tRetN, tNext, tAsg, gName, gNil, gCons, gTup, gUnl, tLst, tTup, tCall, tMeth, tMake, tUn, rU, tAndV, tOrV, tNotV, tAnd, tOr, tNot, tIf, tB, tFld, tDrop, tPar, tNever, tBM, rAppend, tSl, tPart, tNoPart, tM1, tyLst, List.getElem?_cons_zero, List.getElem?_cons_succ, Option.some.injEq, exists_eq_left', exists_eq_left, V.int.injEq, V.bl.injEq, V.str.injEq, V.ref.injEq, List.set_cons_zero, List.set_cons_succ, exists_and_left, exists_and_right, and_assoc, List.cons.injEq, and_true, true_and, List.cons_append, List.nil_append, List.append_nil, List.length_cons, List.length_nil, exists_eq', exists_eq, exists_const, exists_eq_right, exists_eq_right', cxK, Cx.nox, Cx.wish]
          refine ⟨_, hpp.ext e8, _, hat, t, pu, kvs, l, rfl, e8 _ _ hlk, e8 _ _ u7, hI, _, rfl, ?_⟩
          show if (!innerL kvs l) = true then _ else _
          cases hin : innerL kvs l with
          | true =>
            refine iteF ⟨e8, is, fD, by omega, ?_⟩
            rw [ffr_step hl hin]
            exact hlast
          | false =>
            refine iteT ⟨_, fD, by rw [List.length_map]; omega, upd_ext e8 hD, is ++ [0 + (j : Int)], by rw [upd_same, List.map_append]; rfl, by rw [List.length_append]; exact Nat.succ_le_succ hil, .inr ?_⟩
            rw [ffr_stop hl hin, List.getLast?_append]
            show some (0 + (j : Int)) = some (((j + 1 : Nat) : Int) - 1)
            rw [show (0 + (j : Int)) = ((j + 1 : Nat) : Int) - 1 by omega]
        rintro H8 ⟨e8, is, fD, _, hlast⟩
        refine hN2 _ _ ?_
        clear hN2 N2
        have hlast : is.getLast? = some (((ffr kvs ls ls.length : Nat) : Int) - 1) := hlast.elim (fun z => by omega) id
        have pl8 : SqL K H8 D (is.map V.int) := ofL fD
        have s8 := seqL s7 e8
        have n8 := seqL n7 e8
        have hp8 := hpp.ext e8
        have hT8 := lk_ext hT e8
        have u8 := e8 _ _ u7
        clear s7 n7 hpp hT u7 e8 hD fD H7
        -- what is due
        refine seq_i fun N2 hN2 => ?_
        simp only [tDNewK, tDIn, tDNotIn, tDGet, sDPut, rIxL, rIxT, rEq, rNe, rIsi, sFld, rSlL, rIn, rEqD, tYes, tCallN, tSeq, tIfS, tOp, tVar, tC, tCB, tCons, tNil, rI0, rI, tTest, tRet, tRetN, tNext, tAsg, gName, gNil, gCons, gTup, gUnl, tLst, tTup, tCall, tMeth, tMake, tUn, rU, tAndV, tOrV, tNotV, tAnd, tOr, tNot, tIf, tB, tFld, tDrop, tPar, tNever, tBM, rAppend, tSl, tPart, tNoPart, tM1, tyLst, List.getElem?_cons_zero, List.getElem?_cons_succ, Option.some.injEq, exists_eq_left', exists_eq_left, V.int.injEq, V.bl.injEq, V.str.injEq, V.ref.injEq, List.set_cons_zero, List.set_cons_succ, exists_and_left, exists_and_right, and_assoc, List.cons.injEq, and_true, true_and, List.cons_append, List.nil_append, List.append_nil, List.length_cons, List.length_nil, exists_eq', exists_eq, exists_const, exists_eq_right, exists_eq_right', cxK, Cx.nox, Cx.wish]
        refine ⟨by decide, fun pd hpd => ?_⟩
        generalize hE : upd H8 pd _ = H9
        obtain ⟨e9, f9⟩ := alloc hpd hE
        refine hN2 _ _ ?_
        clear hN2 N2 hE
        refine seq_i fun N2 hN2 => ?_
        generalize hfe : ffr kvs ls ls.length = ff at hfst1 hfle hlast
        refine tFor_i (J := Itr (ff : Int) (ls.length - ff)) (H1 := H9) (fun R r => ?_) walk_range (fun i' σ H' => ∃ v9 v12, σ = [some (V.ref p0), some (V.ref pn), some (V.int (0 + (i : Int))), some (V.int size), some (V.int much), some (V.int lean), some (V.ref pp), some (V.ref pu), v8, v9, some (V.ref D), some (V.ref pd), v12, v13, v14, v15, v16, v17] ∧ Ext H8 H' ∧ ∃ us : List Addr, H' pd = some (.lst (us.map V.ref)) ∧ us.length = i' ∧ Paired (ToldRow (1 + much) ls pd H') us (List.range' ff i'))
          ⟨_, _, rfl, e9, [], f9, rfl, .nil⟩ (fun _ _ _ _ _ => trivial) ?_ ?_
        · simp only [iRng2, tDNewK, tDIn, tDNotIn, tDGet, sDPut, rIxL, rIxT, rEq, rNe, rIsi, sFld, rSlL, rIn, rEqD, tYes, tCallN, tSeq, tIfS, tOp, tVar, tC, tCB, tCons, tNil, rI0, rI, tTest, tRet, tRetN, tNext, tAsg, gName, gNil, gCons, gTup, gUnl, tLst, tTup, tCall, tMeth, tMake, tUn, rU, tAndV, tOrV, tNotV, tAnd, tOr, tNot, tIf, tB, tFld, tDrop, tPar, tNever, tBM, rAppend, tSl, tPart, tNoPart, tM1, tyLst, List.getElem?_cons_zero, List.getElem?_cons_succ, Option.some.injEq, exists_eq_left', exists_eq_left, V.int.injEq, V.bl.injEq, V.str.injEq, V.ref.injEq, List.set_cons_zero, List.set_cons_succ, exists_and_left, exists_and_right, and_assoc, List.cons.injEq, and_true, true_and, List.cons_append, List.nil_append, List.append_nil, List.length_cons, List.length_nil, exists_eq', exists_eq, exists_const, exists_eq_right, exists_eq_right', cxK, Cx.nox, Cx.wish]
          refine ⟨_, seqL pl8 e9, _, atI_map (atI_last hlast), _, rfl, _, .inr (hp8.ext e9), by omega, by omega, by rw [List.length_map]; omega, by rw [List.length_map]; omega, ?_⟩
          rw [List.length_map, htl, show ((ff : Int) - 1 + 1) = (ff : Int) by omega, show ((ls.length : Int) - (ff : Int)).toNat = ls.length - ff by omega]
          exact r
        · rintro t x σ H10 H11 ht ⟨v9, v12, rfl, e10, us, f10, hul, hU⟩ ⟨rfl, rfl⟩
          clear hN2
          have hp10 := hp8.ext e10
          have hT10 := lk_ext hT8 e10
          obtain ⟨l, hl⟩ : ∃ l, ls[ff + t]? = some l := ⟨_, List.getElem?_eq_getElem (by omega)⟩
          obtain ⟨k, hk⟩ : ∃ k, ff + t = k + 1 := ⟨ff + t - 1, by omega⟩
          obtain ⟨lp, hlp⟩ : ∃ l, ls[k]? = some l := ⟨_, List.getElem?_eq_getElem (by omega)⟩
          obtain ⟨tl, htt⟩ : ∃ t', ts[ff + t]? = some t' := ⟨_, List.getElem?_eq_getElem (by omega)⟩
          obtain ⟨tp, htp⟩ : ∃ t', ts[k]? = some t' := ⟨_, List.getElem?_eq_getElem (by omega)⟩
          obtain ⟨l', hl', hlk⟩ := LiI.paired_get hT10 htt
          rw [hl] at hl'
          cases hl'
          obtain ⟨l', hl', hlkp⟩ := LiI.paired_get hT10 htp
          rw [hlp] at hl'
          cases hl'
          have hlk : H11 tl = some (.tup (lkV l)) := hlk
          have hlkp : H11 tp = some (.tup (lkV lp)) := hlkp
          have hat : atI (ts.map V.ref) ((ff : Int) + (t : Int)) = some (V.ref tl) := by
            rw [show ((ff : Int) + (t : Int)) = ((ff + t : Nat) : Int) by omega]
            exact atI_map (Own.atI_nat htt)
          have hatp : atI (ts.map V.ref) ((ff : Int) + (t : Int) - 1) = some (V.ref tp) := by
            rw [show ((ff : Int) + (t : Int) - 1) = (k : Int) by omega]
            exact atI_map (Own.atI_nat htp)
          have q2 : atI (lkV l) 2 = some (V.str l.g) := Own.atI_nat (j := 2) rfl
          have q4 : atI (lkV l) 4 = some (V.str l.c) := Own.atI_nat (j := 4) rfl
          have q5 : atI (lkV l) 5 = some (V.int l.pr) := Own.atI_nat (j := 5) rfl
          have q6 : atI (lkV l) 6 = some (V.int l.m) := Own.atI_nat (j := 6) rfl
          have r4 : atI (lkV lp) 4 = some (V.str lp.c) := Own.atI_nat (j := 4) rfl
          have r5 : atI (lkV lp) 5 = some (V.int lp.pr) := Own.atI_nat (j := 5) rfl
          have r6 : atI (lkV lp) 6 = some (V.int lp.m) := Own.atI_nat (j := 6) rfl
          have hlo := hok l (List.mem_of_getElem? hl)
          have hlop := hok lp (List.mem_of_getElem? hlp)
          show tSeq _ _ _ [some (V.ref p0), some (V.ref pn), some (V.int (0 + (i : Int))), some (V.int size), some (V.int much), some (V.int lean), some (V.ref pp), some (V.ref pu), v8, some (V.int ((ff : Int) + (t : Int))), some (V.ref D), some (V.ref pd), v12, v13, v14, v15, v16, v17] H11
          refine seq_i fun N2 hN2 => ?_
          simp only [tDNewK, tDIn, tDNotIn, tDGet, sDPut, rIxL, rIxT, rEq, rNe, rIsi, sFld, rSlL, rIn, rEqD, tYes, tCallN, tSeq, tIfS, tOp, tVar, tC, tCB, tCons, tNil, rI0, rI, tTest, tRet, tRetN, tNext, tAsg, gName, gNil, gCons, gTup, gUnl, tLst, tTup, tCall, tMeth, tMake, tUn, rU, tAndV, tOrV, tNotV, tAnd, tOr, tNot, tIf, tB, tFld, tDrop, tPar, tNever, tBM, rAppend, tSl, tPart, tNoPart, tM1, tyLst, List.getElem?_cons_zero, List.getElem?_cons_succ, Option.some.injEq, exists_eq_left', exists_eq_left, V.int.injEq, V.bl.injEq, V.str.injEq, V.ref.injEq, List.set_cons_zero, List.set_cons_succ, exists_and_left, exists_and_right, and_assoc, List.cons.injEq, and_true, true_and, List.cons_append, List.nil_append, List.append_nil, List.length_cons, List.length_nil, exists_eq', exists_eq, exists_const, exists_eq_right, exists_eq_right', cxK, Cx.nox, Cx.wish]
          intro b hb
          generalize hE : upd H11 b _ = H12
          obtain ⟨e12, g12⟩ := alloc hb hE
          refine hN2 _ _ ?_
          clear hN2 N2 hE
          have hbD : b ≠ pd := ne_of_new hb f10
          refine seq_i fun N2 hN2 => ?_
          simp only [tDNewK, tDIn, tDNotIn, tDGet, sDPut, rIxL, rIxT, rEq, rNe, rIsi, sFld, rSlL, rIn, rEqD, tYes, tCallN, tSeq, tIfS, tOp, tVar, tC, tCB, tCons, tNil, rI0, rI, tTest, tRet, tRetN, tNext, tAsg, gName, gNil, gCons, gTup, gUnl, tLst, tTup, tCall, tMeth, tMake, tUn, rU, tAndV, tOrV, tNotV, tAnd, tOr, tNot, tIf, tB, tFld, tDrop, tPar, tNever, tBM, rAppend, tSl, tPart, tNoPart, tM1, tyLst, List.getElem?_cons_zero, List.getElem?_cons_succ, Option.some.injEq, exists_eq_left', exists_eq_left, V.int.injEq, V.bl.injEq, V.str.injEq, V.ref.injEq, List.set_cons_zero, List.set_cons_succ, exists_and_left, exists_and_right, and_assoc, List.cons.injEq, and_true, true_and, List.cons_append, List.nil_append, List.append_nil, List.length_cons, List.length_nil, exists_eq', exists_eq, exists_const, exists_eq_right, exists_eq_right', cxK, Cx.nox, Cx.wish]
          refine ⟨_, hp10.ext e12, _, hat, tl, rfl, _, ofT (e12 _ _ hlk), _, q4, ?_⟩
          have up : (2 : Nat) ^ 120 ≤ 2 ^ 1000 := Nat.pow_le_pow_right (by decide) (by decide)
          have up6 : (2 : Nat) ^ 60 ≤ 2 ^ 1000 := Nat.pow_le_pow_right (by decide) (by decide)
          have ml := mul_lt 60 60 hcb hlo.pr
          have mlp := mul_lt 60 60 hcb hlop.pr
          refine ⟨_, hp10.ext e12, _, hat, tl, rfl, _, ofT (e12 _ _ hlk), _, q5, _, rfl, mulWn 60 60 hcb hlo.pr (by decide) (by decide) (by decide), _, hp10.ext e12, _, hat, tl, rfl, _, ofT (e12 _ _ hlk), _, q6, ?_⟩
          refine ⟨b, l.c, _, l.m, [], rfl, ⟨[], g12, .nil⟩, by decide, List.nodup_nil, hlo.m0, Nat.lt_of_lt_of_le ml up, Nat.lt_of_lt_of_le hlo.m up6, fun e he => absurd he List.not_mem_nil, fun H13 off13 B13 => hN2 _ _ ?_⟩
          clear hN2 N2
          have e13 : Ext H11 H13 := Off.ext_new e12 hb off13
          have hx1 : Sz (Rat.divInt ((1 + much) * l.pr) l.m) 120 := cost_sz hcb hlo
          have hneg : Rat.divInt (0 - (1 + much) * lp.pr) lp.m = -Rat.divInt ((1 + much) * lp.pr) lp.m := by
            rw [Int.zero_sub, Rat.neg_divInt]
          refine seq_i fun N2 hN2 => ?_
          simp only [tDNewK, tDIn, tDNotIn, tDGet, sDPut, rIxL, rIxT, rEq, rNe, rIsi, sFld, rSlL, rIn, rEqD, tYes, tCallN, tSeq, tIfS, tOp, tVar, tC, tCB, tCons, tNil, rI0, rI, tTest, tRet, tRetN, tNext, tAsg, gName, gNil, gCons, gTup, gUnl, tLst, tTup, tCall, tMeth, tMake, tUn, rU, tAndV, tOrV, tNotV, tAnd, tOr, tNot, tIf, tB, tFld, tDrop, tPar, tNever, tBM, rAppend, tSl, tPart, tNoPart, tM1, tyLst, List.getElem?_cons_zero, List.getElem?_cons_succ, Option.some.injEq, exists_eq_left', exists_eq_left, V.int.injEq, V.bl.injEq, V.str.injEq, V.ref.injEq, List.set_cons_zero, List.set_cons_succ, exists_and_left, exists_and_right, and_assoc, List.cons.injEq, and_true, true_and, List.cons_append, List.nil_append, List.append_nil, List.length_cons, List.length_nil, exists_eq', exists_eq, exists_const, exists_eq_right, exists_eq_right', cxK, Cx.nox, Cx.wish]
          refine ⟨_, hp10.ext e13, _, hatp, tp, rfl, _, ofT (e13 _ _ hlkp), _, r4, _, hp10.ext e13, _, hatp, tp, rfl, _, ofT (e13 _ _ hlkp), _, r5, _, rfl, mulWn 60 60 hcb hlop.pr (by decide) (by decide) (by decide), _, hp10.ext e13, _, hatp, tp, rfl, _, ofT (e13 _ _ hlkp), _, r6, ?_⟩
          refine ⟨b, lp.c, _, lp.m, [(l.c, Rat.divInt ((1 + much) * l.pr) l.m)], rfl, B13, by show 1 ≤ 100; decide, by simp, hlop.m0, ?_, Nat.lt_of_lt_of_le hlop.m up6, fun e he => ?_, fun H14 off14 B14 => hN2 _ _ ?_⟩
          · rw [Int.zero_sub, Int.natAbs_neg]
            exact Nat.lt_of_lt_of_le mlp up
          · rw [List.mem_singleton.mp he]
            exact hx1.mono (by decide)
          clear hN2 N2
          rw [hneg] at B14
          obtain ⟨kb, hkb, hpb⟩ := B13
          have e14 : Ext H11 H14 := Off.ext_new e13 hb off14
          have f14 := e14 _ _ f10
          have nd2 : ((addR [(l.c, Rat.divInt ((1 + much) * l.pr) l.m)] lp.c (-Rat.divInt ((1 + much) * lp.pr) lp.m)).map (·.1)).Nodup := addR_names.2 (by simp)
          have ln2 : (addR [(l.c, Rat.divInt ((1 + much) * l.pr) l.m)] lp.c (-Rat.divInt ((1 + much) * lp.pr) lp.m)).length ≤ 2 := addR_len
          simp only [tDNewK, tDIn, tDNotIn, tDGet, sDPut, rIxL, rIxT, rEq, rNe, rIsi, sFld, rSlL, rIn, rEqD, tYes, tCallN, tSeq, tIfS, tOp, tVar, tC, tCB, tCons, tNil, rI0, rI, tTest, tRet, tRetN, tNext, tAsg, gName, gNil, gCons, gTup, gUnl, tLst, tTup, tCall, tMeth, tMake, tUn, rU, tAndV, tOrV, tNotV, tAnd, tOr, tNot, tIf, tB, tFld, tDrop, tPar, tNever, tBM, rAppend, tSl, tPart, tNoPart, tM1, tyLst, List.getElem?_cons_zero, List.getElem?_cons_succ, Option.some.injEq, exists_eq_left', exists_eq_left, V.int.injEq, V.bl.injEq, V.str.injEq, V.ref.injEq, List.set_cons_zero, List.set_cons_succ, exists_and_left, exists_and_right, and_assoc, List.cons.injEq, and_true, true_and, List.cons_append, List.nil_append, List.append_nil, List.length_cons, List.length_nil, exists_eq', exists_eq, exists_const, exists_eq_right, exists_eq_right', cxK, Cx.nox, Cx.wish]
          refine ⟨tyLst f14, _, hp10.ext e14, _, hat, tl, rfl, _, ofT (e14 _ _ hlk), _, q2, ?_⟩
          refine ⟨b, _, rfl, B14, nd2, by omega, fun q H15 cs e15 hq hcc hvc h3 => ⟨by decide, fun pt hpt => ?_⟩⟩
          generalize hE : upd H15 pt _ = H16
          obtain ⟨e16, f16⟩ := alloc hpt hE
          have e1116 := e14.trans (e15.trans e16)
          have fD := e1116 _ _ f10
          have o16 : Off pd H16 (upd H16 pd (.lst (us.map V.ref ++ [V.ref pt]))) := Off.upd
          refine ⟨_, fD, by rw [List.length_map]; omega, upd_ext (e10.trans e1116) hpd, us ++ [pt], by rw [upd_same, List.map_append]; rfl, by rw [List.length_append, hul]; rfl, ?_⟩
          rw [List.range'_concat, Nat.one_mul]
          refine trow_offL (Paired.snoc (trow_ext hU e1116) ⟨l, q, cs, ne_of_new hq f14, hl, f16, h3.ext e16, hcc, fun n => ?_⟩) fD o16
          rw [hvc, val_addR]
          unfold gain
          rw [costL_some (take_last hl), hk, costL_some (take_last hlp)]
          show val [(l.c, _)] n + _ = val [(l.c, _)] n - val (addR [] lp.c _) n
          rw [val_addR]
          show _ = _ - ((0 : Rat) + _)
          split <;> grind
        · rintro σ H10 ⟨v9, v12, rfl, e10, us, f10, hul, hU⟩
          refine hN2 _ _ ?_
          clear hN2 N2
          have s10 := seqL s8 e10
          have n10 := seqL n8 e10
          have hP10 : PathAt K H10 pp ls := ⟨ts, hp8.ext e10, lk_ext hT8 e10⟩
          have u10 := e10 _ _ u8
          clear s8 n8 hp8 hT8 u8 e10 f9 e9 pl8 hpd
          -- handed, fresh
          refine seq_i fun N2 hN2 => ?_
          simp only [tDNewK, tDIn, tDNotIn, tDGet, sDPut, rIxL, rIxT, rEq, rNe, rIsi, sFld, rSlL, rIn, rEqD, tYes, tCallN, tSeq, tIfS, tOp, tVar, tC, tCB, tCons, tNil, rI0, rI, tTest, tRet, tRetN, tNext, tAsg, gName, gNil, gCons, gTup, gUnl, tLst, tTup, tCall, tMeth, tMake, tUn, rU, tAndV, tOrV, tNotV, tAnd, tOr, tNot, tIf, tB, tFld, tDrop, tPar, tNever, tBM, rAppend, tSl, tPart, tNoPart, tM1, tyLst, List.getElem?_cons_zero, List.getElem?_cons_succ, Option.some.injEq, exists_eq_left', exists_eq_left, V.int.injEq, V.bl.injEq, V.str.injEq, V.ref.injEq, List.set_cons_zero, List.set_cons_succ, exists_and_left, exists_and_right, and_assoc, List.cons.injEq, and_true, true_and, List.cons_append, List.nil_append, List.append_nil, List.length_cons, List.length_nil, exists_eq', exists_eq, exists_const, exists_eq_right, exists_eq_right', cxK, Cx.nox, Cx.wish]
          refine ⟨kvs, .inl u10, fun ph hph => ?_⟩
          generalize hE : upd H10 ph _ = H11
          obtain ⟨e11, h11⟩ := alloc hph hE
          refine hN2 _ _ ?_
          clear hN2 N2 hE
          refine seq_i fun N2 hN2 => ?_
          simp only [tDNewK, tDIn, tDNotIn, tDGet, sDPut, rIxL, rIxT, rEq, rNe, rIsi, sFld, rSlL, rIn, rEqD, tYes, tCallN, tSeq, tIfS, tOp, tVar, tC, tCB, tCons, tNil, rI0, rI, tTest, tRet, tRetN, tNext, tAsg, gName, gNil, gCons, gTup, gUnl, tLst, tTup, tCall, tMeth, tMake, tUn, rU, tAndV, tOrV, tNotV, tAnd, tOr, tNot, tIf, tB, tFld, tDrop, tPar, tNever, tBM, rAppend, tSl, tPart, tNoPart, tM1, tyLst, List.getElem?_cons_zero, List.getElem?_cons_succ, Option.some.injEq, exists_eq_left', exists_eq_left, V.int.injEq, V.bl.injEq, V.str.injEq, V.ref.injEq, List.set_cons_zero, List.set_cons_succ, exists_and_left, exists_and_right, and_assoc, List.cons.injEq, and_true, true_and, List.cons_append, List.nil_append, List.append_nil, List.length_cons, List.length_nil, exists_eq', exists_eq, exists_const, exists_eq_right, exists_eq_right', cxK, Cx.nox, Cx.wish]
          refine ⟨1 + much, pp, ph, kvs, ls, rfl, hP10.ext e11, h11, hI, by omega, hcb, hok, fun q ts2 H12 e12 f12 hF => hN2 _ _ ?_⟩
          clear hN2 N2
          rw [hfe] at hF
          have e1012 := e11.trans e12
          have s12 := seqL s10 e1012
          have n12 := seqL n10 e1012
          have hP12 := hP10.ext e1012
          have u12 := e1012 _ _ u10
          have h12 := e12 _ _ h11
          have fD := e1012 _ _ f10
          have hU := trow_ext hU e1012
          clear s10 n10 hP10 u10 h11 f10 e11 e12 hph e1012
          -- told and due
          refine seq_i fun N2 hN2 => ?_
          simp only [rNeDA, tDNewK, tDIn, tDNotIn, tDGet, sDPut, rIxL, rIxT, rEq, rNe, rIsi, sFld, rSlL, rIn, rEqD, tYes, tCallN, tSeq, tIfS, tOp, tVar, tC, tCB, tCons, tNil, rI0, rI, tTest, tRet, tRetN, tNext, tAsg, gName, gNil, gCons, gTup, gUnl, tLst, tTup, tCall, tMeth, tMake, tUn, rU, tAndV, tOrV, tNotV, tAnd, tOr, tNot, tIf, tB, tFld, tDrop, tPar, tNever, tBM, rAppend, tSl, tPart, tNoPart, tM1, tyLst, List.getElem?_cons_zero, List.getElem?_cons_succ, Option.some.injEq, exists_eq_left', exists_eq_left, V.int.injEq, V.bl.injEq, V.str.injEq, V.ref.injEq, List.set_cons_zero, List.set_cons_succ, exists_and_left, exists_and_right, and_assoc, List.cons.injEq, and_true, true_and, List.cons_append, List.nil_append, List.append_nil, List.length_cons, List.length_nil, exists_eq', exists_eq, exists_const, exists_eq_right, exists_eq_right', cxK, Cx.nox, Cx.wish]
          refine ⟨1 + much, q, ls, ts2, _, rfl, f12, hF, by rw [List.length_range']; omega, fun q2 us2 D2 H13 e13 f13 hU2 => ?_⟩
          obtain ⟨ds, dp1, dp2, dl, dm⟩ := trow_data (K := K) hcb hok hU2 (trow_ext hU e13)
          have hneat : Neat (.list ds) := (Mild.list (n := 30000) (k := 3) (m := 10) dm (by rw [dl, List.length_range']; omega)).neat (by decide) (by decide)
          refine ⟨_, _, _, rfl, .lst (ofL f13) dp1, .lst (ofL (e13 _ _ fD)) dp2, hneat, true, rfl, iteF ?_⟩
          refine ⟨kvs, e13 _ _ h12, kvs, e13 _ _ u12, rfl, fun p hp => ⟨hU'.get hp, ?_⟩, iteF (hN2 _ _ ?_)⟩
          · obtain ⟨x, hx⟩ := hI p hp
            rw [hx]
            rfl
          clear hN2 N2 hU2 dp1 dp2 hneat dm dl ds hU
          have s13 := seqL s12 e13
          have n13 := seqL n12 e13
          have hP13 := hP12.ext e13
          have u13 := e13 _ _ u12
          have hF13 := fresh_ext hF e13
          have f13 := e13 _ _ f12
          clear s12 n12 hP12 u12 h12 hF f12 fD e13
          -- the sum
          refine seq_i fun N2 hN2 => ?_
          simp only [tDNewK, tDIn, tDNotIn, tDGet, sDPut, rIxL, rIxT, rEq, rNe, rIsi, sFld, rSlL, rIn, rEqD, tYes, tCallN, tSeq, tIfS, tOp, tVar, tC, tCB, tCons, tNil, rI0, rI, tTest, tRet, tRetN, tNext, tAsg, gName, gNil, gCons, gTup, gUnl, tLst, tTup, tCall, tMeth, tMake, tUn, rU, tAndV, tOrV, tNotV, tAnd, tOr, tNot, tIf, tB, tFld, tDrop, tPar, tNever, tBM, rAppend, tSl, tPart, tNoPart, tM1, tyLst, List.getElem?_cons_zero, List.getElem?_cons_succ, Option.some.injEq, exists_eq_left', exists_eq_left, V.int.injEq, V.bl.injEq, V.str.injEq, V.ref.injEq, List.set_cons_zero, List.set_cons_succ, exists_and_left, exists_and_right, and_assoc, List.cons.injEq, and_true, true_and, List.cons_append, List.nil_append, List.append_nil, List.length_cons, List.length_nil, exists_eq', exists_eq, exists_const, exists_eq_right, exists_eq_right', cxK, Cx.nox, Cx.wish]
          refine ⟨1 + much, pp, .ref pu, kvs, ls, rfl, hP13, .inr ⟨pu, rfl, u13⟩, hI, by omega, hcb, hok, fun r dr rs H14 e14 ndr hcr hvr hPr => hN2 _ _ ?_⟩
          clear hN2 N2
          have hcl := cut_last (kvs := kvs) (ls := ls) ls.length (Nat.le_refl _)
          rw [List.take_length, hfe] at hcl
          have hvr : ∀ n, val rs n = val (costL (1 + much) (ls.take (ff + 0))) n := fun n => by rw [hvr, costL_last hcl]; rfl
          have tl2 : ts2.length = ls.length - ff := by rw [Paired.length hF13, List.length_range']
          refine seq_i fun N2 hN2 => ?_
          refine tFor_i (J := Itl K q) (H1 := H14) (fun R r => ⟨_, rfl, q, rfl, ⟨_, ofL (e14 _ _ f13)⟩, r⟩) (walk_list (K := K) (a := q) (xs := ts2.map V.ref))
            (fun t σ H' => ∃ v16 v17 r dr rs, σ = [some (V.ref p0), some (V.ref pn), some (V.int (0 + (i : Int))), some (V.int size), some (V.int much), some (V.int lean), some (V.ref pp), some (V.ref pu), v8, v9, some (V.ref D), some (V.ref pd), v12, some (V.ref ph), some (V.ref q), some (V.ref r), v16, v17] ∧ Ext H13 H' ∧ PurD a.C_Purse a.C_Part H' r dr rs ∧ Canon rs ∧ ∀ n, val rs n = val (costL (1 + much) (ls.take (ff + t))) n)
            ⟨_, _, r, dr, rs, rfl, e14, hPr, hcr, hvr⟩ (fun t σ H' _ h => ?_) ?_ ?_
          · obtain ⟨_, _, _, _, _, _, e, _⟩ := h
            exact ofL (e _ _ f13)
          · rintro t x σ H15 H16 ht ⟨v16, v17, r, dr, rs, rfl, e15, hPr, hcr, hvr⟩ ⟨rfl, hx⟩
            rw [List.length_map] at ht
            obtain ⟨tt, hti, rfl⟩ : ∃ t', ts2[t]? = some t' ∧ x = V.ref t' := by
              rw [List.getElem?_map] at hx
              cases e : ts2[t]? with
              | none => rw [e] at hx; cases hx
              | some t' => rw [e] at hx; exact ⟨t', rfl, (Option.some.inj hx).symm⟩
            obtain ⟨j, hj, l, pq, dq, gs, g1, g2, g3, g4, g5⟩ := LiI.paired_get (fresh_ext hF13 e15) hti
            have hj : j = ff + t := by
              rw [List.getElem?_range' (by omega)] at hj
              have := Option.some.inj hj
              omega
            subst hj
            refine ⟨tt, _, rfl, ofT g2, rfl, ?_⟩
            simp only [tDNewK, tDIn, tDNotIn, tDGet, sDPut, rIxL, rIxT, rEq, rNe, rIsi, sFld, rSlL, rIn, rEqD, tYes, tCallN, tSeq, tIfS, tOp, tVar, tC, tCB, tCons, tNil, rI0, rI, tTest, tRet, tRetN, tNext, tAsg, gName, gNil, gCons, gTup, gUnl, tLst, tTup, tCall, tMeth, tMake, tUn, rU, tAndV, tOrV, tNotV, tAnd, tOr, tNot, tIf, tB, tFld, tDrop, tPar, tNever, tBM, rAppend, tSl, tPart, tNoPart, tM1, tyLst, List.getElem?_cons_zero, List.getElem?_cons_succ, Option.some.injEq, exists_eq_left', exists_eq_left, V.int.injEq, V.bl.injEq, V.str.injEq, V.ref.injEq, List.set_cons_zero, List.set_cons_succ, exists_and_left, exists_and_right, and_assoc, List.cons.injEq, and_true, true_and, List.cons_append, List.nil_append, List.append_nil, List.length_cons, List.length_nil, exists_eq', exists_eq, exists_const, exists_eq_right, exists_eq_right', cxK, Cx.nox, Cx.wish]
            have ins : ∃ dx fs, H16 r = some (.ins a.C_Purse dx fs) ∧ ∀ m : Str, ¬ m = "_held" → fs.lookup m = none := by
              obtain ⟨dx, kvs, h1, _, _⟩ := hPr
              exact ⟨dx, _, h1, fun m hm => held_no hm⟩
            obtain ⟨dx1, fs1, i1, no1⟩ := ins
            have hokt : ∀ n, ∀ l ∈ ls.take n, LkOk l := fun n l hl => hok l (List.mem_of_mem_take hl)
            obtain ⟨lr, sr⟩ := canon_of hcr costL_nd hvr
            obtain ⟨lg, sg⟩ := gain_rows hcb hok g4 g5
            have lo := costL_one (c := 1 + much) (ls := ls.take (ff + t))
            refine ⟨dx1, fs1, i1, no1 _ (by decide +kernel), r, dr, pq, dq, rs, gs, 300, rfl, hPr, g3, fun x hx => ?_, by omega, by omega, fun r2 dr2 rs2 H17 e17 nd2 hc2 hv2 hP2 => ?_⟩
            · rcases List.mem_append.mp hx with h | h
              · exact (costL_sz hcb (hokt _) x (sr x h)).mono (by decide)
              · exact sg x h
            refine ⟨_, _, r2, rfl, rfl, rfl, e15.trans e17, dr2, rs2, hP2, hc2, fun n => ?_⟩
            rw [hv2, hvr, g5]
            unfold gain
            show _ = val (costL (1 + much) (ls.take (ff + t + 1))) n
            grind
          · rintro σ H15 ⟨v16, v17, r, dr, rs, rfl, e15, hPr, hcr, hvr⟩
            refine hN2 _ _ ?_
            clear hN2 N2
            rw [List.length_map, tl2, show ff + (ls.length - ff) = ls.length by omega, List.take_length] at hvr
            simp only [tDNewK, tDIn, tDNotIn, tDGet, sDPut, rIxL, rIxT, rEq, rNe, rIsi, sFld, rSlL, rIn, rEqD, tYes, tCallN, tSeq, tIfS, tOp, tVar, tC, tCB, tCons, tNil, rI0, rI, tTest, tRet, tRetN, tNext, tAsg, gName, gNil, gCons, gTup, gUnl, tLst, tTup, tCall, tMeth, tMake, tUn, rU, tAndV, tOrV, tNotV, tAnd, tOr, tNot, tIf, tB, tFld, tDrop, tPar, tNever, tBM, rAppend, tSl, tPart, tNoPart, tM1, tyLst, List.getElem?_cons_zero, List.getElem?_cons_succ, Option.some.injEq, exists_eq_left', exists_eq_left, V.int.injEq, V.bl.injEq, V.str.injEq, V.ref.injEq, List.set_cons_zero, List.set_cons_succ, exists_and_left, exists_and_right, and_assoc, List.cons.injEq, and_true, true_and, List.cons_append, List.nil_append, List.append_nil, List.length_cons, List.length_nil, exists_eq', exists_eq, exists_const, exists_eq_right, exists_eq_right', cxK, Cx.nox, Cx.wish]
            refine ⟨1 + much, pp, .non, [], ls, rfl, hP13.ext e15, .inl ⟨rfl, rfl⟩, AllV.nil, by omega, hcb, hok, fun r6 d6 rs6 H16 e16 nd6 hc6 hv6 hP6 => ?_⟩
            have hPr' := hPr.ext e16
            have ins : ∀ {H : Hp} {p d : Addr} {hs : List (Str × Rat)}, PurD a.C_Purse a.C_Part H p d hs → ∃ dx fs, H p = some (.ins a.C_Purse dx fs) := fun h => by
              obtain ⟨dx, kvs, h1, _, _⟩ := h
              exact ⟨dx, _, h1⟩
            obtain ⟨dx3, fs3, i3⟩ := ins hPr'
            obtain ⟨dx4, fs4, i4⟩ := ins hP6
            have hne : dr ≠ d6 := by
              obtain ⟨_, kv, _, h2, _⟩ := hPr
              exact (ne_of_new nd6 h2).symm
            have heq : rs = rs6 := hcr.eq hc6 fun n => by rw [hvr, hv6, costL_nil' rfl]
            refine ⟨r, dx3, fs3, _, rfl, i3, ty_Purse T i4, T.nf_Purse_Purse, r, dr, rs, .ref r6, rfl, hPr', hcr, .inl ⟨r6, d6, rs6, rfl, hP6, hc6, hne, true, ?_, true, rfl, iteF ?_⟩⟩
            · rw [decide_eq_true heq]
            have eZ := e15.trans e16
            exact ⟨seqL s13 eZ, seqL n13 eZ⟩
      simp only [tDNewK, tDIn, tDNotIn, tDGet, sDPut, rIxL, rIxT, rEq, rNe, rIsi, sFld, rSlL, rIn, rEqD, tYes, tCallN, tSeq, tIfS, tOp, tVar, tC, tCB, tCons, tNil, rI0, rI, tTest, tRet, tRetN, tNext, tAsg, gName, gNil, gCons, gTup, gUnl, tLst, tTup, tCall, tMeth, tMake, tUn, rU, tAndV, tOrV, tNotV, tAnd, tOr, tNot, tIf, tB, tFld, tDrop, tPar, tNever, tBM, rAppend, tSl, tPart, tNoPart, tM1, tyLst, List.getElem?_cons_zero, List.getElem?_cons_succ, Option.some.injEq, exists_eq_left', exists_eq_left, V.int.injEq, V.bl.injEq, V.str.injEq, V.ref.injEq, List.set_cons_zero, List.set_cons_succ, exists_and_left, exists_and_right, and_assoc, List.cons.injEq, and_true, true_and, List.cons_append, List.nil_append, List.append_nil, List.length_cons, List.length_nil, exists_eq', exists_eq, exists_const, exists_eq_right, exists_eq_right', cxK, Cx.nox, Cx.wish]
      refine ⟨rfl, ite2 (fun _ => ?_) (fun _ => merge _ _ _ s6 n6 hP6 u6 hU hI (by omega) hkn)⟩
      refine tFor_i (J := Itl K pn) (H1 := H6) (fun R r => ⟨_, rfl, pn, rfl, ⟨_, n6⟩, r⟩) (walk_list (K := K) (a := pn) (xs := zs.map V.str))
        (fun t σ H' => ∃ v8, σ = [some (V.ref p0), some (V.ref pn), some (V.int (0 + (i : Int))), some (V.int size), some (V.int much), some (V.int lean), some (V.ref pp), some (V.ref pu), v8, v9, v10, v11, v12, v13, v14, v15, v16, v17] ∧ Off pu H6 H' ∧ ∃ kvs, H' pu = some (.dK kvs) ∧ Uniq kvs ∧ AllV IsI kvs ∧ kvs.length ≤ 5 + t ∧ ∀ p ∈ kvs, ∃ z ∈ zs, p.1 = Sum.inr z)
        ⟨_, rfl, fun _ _ h _ => h, kvs, u6, hU, hI, by omega, hkn⟩ (fun t σ H' _ h => ?_) ?_ ?_
      · obtain ⟨_, _, off, _⟩ := h
        exact seqL_off n6 u6 off
      · rintro t x σ H7 H8 ht ⟨v8, rfl, off, kvs, f, hU, hI, hl, hk⟩ ⟨rfl, hx⟩
        rw [List.length_map] at ht
        obtain ⟨z, hz, rfl⟩ : ∃ z, zs[t]? = some z ∧ x = V.str z := by
          rw [List.getElem?_map] at hx
          cases e : zs[t]? with
          | none => rw [e] at hx; cases hx
          | some t' => rw [e] at hx; exact ⟨t', rfl, (Option.some.inj hx).symm⟩
        show sDPut _ _ _ _ [some (V.ref p0), some (V.ref pn), some (V.int (0 + (i : Int))), some (V.int size), some (V.int much), some (V.int lean), some (V.ref pp), some (V.ref pu), some (V.str z), v9, v10, v11, v12, v13, v14, v15, v16, v17] H8
        simp only [tDNewK, tDIn, tDNotIn, tDGet, sDPut, rIxL, rIxT, rEq, rNe, rIsi, sFld, rSlL, rIn, rEqD, tYes, tCallN, tSeq, tIfS, tOp, tVar, tC, tCB, tCons, tNil, rI0, rI, tTest, tRet, tRetN, tNext, tAsg, gName, gNil, gCons, gTup, gUnl, tLst, tTup, tCall, tMeth, tMake, tUn, rU, tAndV, tOrV, tNotV, tAnd, tOr, tNot, tIf, tB, tFld, tDrop, tPar, tNever, tBM, rAppend, tSl, tPart, tNoPart, tM1, tyLst, List.getElem?_cons_zero, List.getElem?_cons_succ, Option.some.injEq, exists_eq_left', exists_eq_left, V.int.injEq, V.bl.injEq, V.str.injEq, V.ref.injEq, List.set_cons_zero, List.set_cons_succ, exists_and_left, exists_and_right, and_assoc, List.cons.injEq, and_true, true_and, List.cons_append, List.nil_append, List.append_nil, List.length_cons, List.length_nil, exists_eq', exists_eq, exists_const, exists_eq_right, exists_eq_right', cxK, Cx.nox, Cx.wish]
        refine ⟨_, DPut.k (k := Sum.inr z) f (by omega), off.trans Off.upd, _, upd_same, hU.put _ _, hI.put _ ⟨0, rfl⟩, ?_, fun p hp => ?_⟩
        · have := length_putK kvs (Sum.inr z) (V.int 0)
          omega
        · rcases mem_put hp with h | h
          · exact hk p h
          · rw [h]
            exact ⟨z, List.mem_of_getElem? hz, rfl⟩
      · rintro σ H7 ⟨v8, rfl, off, kvs, f, hU, hI, hl, hk⟩
        rw [List.length_map] at hl
        exact merge _ _ _ (seqL_off s6 u6 off) (seqL_off n6 u6 off) (hP6.off u6 off) f hU hI (by omega) hk
    · rintro σ H1 ⟨⟨v2, v3, v4, v5, v6, v7, v8, v9, v10, v11, v12, v13, v14, v15, v16, v17, rfl⟩, _, _⟩
      refine hN _ _ ?_
      simp only [tDNewK, tDIn, tDNotIn, tDGet, sDPut, rIxL, rIxT, rEq, rNe, rIsi, sFld, rSlL, rIn, rEqD, tYes, tCallN, tSeq, tIfS, tOp, tVar, tC, tCB, tCons, tNil, rI0, rI, tTest, tRet, tRetN, tNext, tAsg, gName, gNil, gCons, gTup, gUnl, tLst, tTup, tCall, tMeth, tMake, tUn, rU, tAndV, tOrV, tNotV, tAnd, tOr, tNot, tIf, tB, tFld, tDrop, tPar, tNever, tBM, rAppend, tSl, tPart, tNoPart, tM1, tyLst, List.getElem?_cons_zero, List.getElem?_cons_succ, Option.some.injEq, exists_eq_left', exists_eq_left, V.int.injEq, V.bl.injEq, V.str.injEq, V.ref.injEq, List.set_cons_zero, List.set_cons_succ, exists_and_left, exists_and_right, and_assoc, List.cons.injEq, and_true, true_and, List.cons_append, List.nil_append, List.append_nil, List.length_cons, List.length_nil, exists_eq', exists_eq, exists_const, exists_eq_right, exists_eq_right', cxK, Cx.nox, Cx.wish]
      exact q _
end
end My

set_option Elab.async false
set_option maxRecDepth 100000
set_option maxHeartbeats 4000000
set_option linter.all false
namespace My
open PySem L2 Own
section
variable {P : Program} {w : World} {K : PySem.W.Frag} {mg : Str → Option Value} {base : Heap} {a : Adr}
end
theorem all_mk {P : Program} {w : World} {K : PySem.W.Frag} {h : Heap} {mg : Str → Option Value} {fa C_Part C_Purse f_Part_init f_Part_plus f_Part_times f_Part_sign f_Part_eq f_Purse_init f_Purse_at f_Purse_coins f_Purse_plus f_Purse_minus f_Purse_times f_Purse_rows f_Purse_eq f_inner f_cut f_cost f_fresh f_was_under f_first_fresh f_cost_by_last f_l_cell f_l_digits f_l_names f_l_path f_l_since f_l_frac f_l_plus f_l_add f_l_due f_l_inner f_l_same f_l_whole f_l_told f_l_told_all f_law t_rows T_Part_init T_Purse_init KD_cost : Addr} (X : K.In h) (G : h.Ns mainGlobals mg) (hfa : mg "law" = some (.ref fa))
    {od_Part_init an_Part_init od_Part_plus an_Part_plus od_Part_times an_Part_times od_Part_sign an_Part_sign od_Part_eq an_Part_eq od_Purse_init an_Purse_init od_Purse_at an_Purse_at od_Purse_coins an_Purse_coins od_Purse_plus an_Purse_plus od_Purse_minus an_Purse_minus od_Purse_times an_Purse_times od_Purse_rows an_Purse_rows od_Purse_eq an_Purse_eq od_inner an_inner od_cut an_cut od_cost an_cost od_fresh an_fresh od_was_under an_was_under od_first_fresh an_first_fresh od_cost_by_last an_cost_by_last od_l_cell an_l_cell od_l_digits an_l_digits od_l_names an_l_names od_l_path an_l_path od_l_since an_l_since od_l_frac an_l_frac od_l_plus an_l_plus od_l_add an_l_add od_l_due an_l_due od_l_inner an_l_inner od_l_same an_l_same od_l_whole an_l_whole od_l_told an_l_told od_l_told_all an_l_told_all od_law an_law : Option Addr}
    {sl_Part_init sl_Part_plus sl_Part_times sl_Part_sign sl_Part_eq sl_Purse_init sl_Purse_at sl_Purse_coins sl_Purse_plus sl_Purse_minus sl_Purse_times sl_Purse_rows sl_Purse_eq sl_inner sl_cut sl_cost sl_fresh sl_was_under sl_first_fresh sl_cost_by_last sl_l_cell sl_l_digits sl_l_names sl_l_path sl_l_since sl_l_frac sl_l_plus sl_l_add sl_l_due sl_l_inner sl_l_same sl_l_whole sl_l_told sl_l_told_all sl_law : Array (Option Value)}
    {oc_Part_init kV_Part_init dc_Part_init pm_Part_init cd_Part_init ct_Part_init oc_Part_plus kV_Part_plus dc_Part_plus pm_Part_plus cd_Part_plus ct_Part_plus oc_Part_times kV_Part_times dc_Part_times pm_Part_times cd_Part_times ct_Part_times oc_Part_sign kV_Part_sign dc_Part_sign pm_Part_sign cd_Part_sign ct_Part_sign oc_Part_eq kV_Part_eq dc_Part_eq pm_Part_eq cd_Part_eq ct_Part_eq oc_Purse_init kV_Purse_init dc_Purse_init pm_Purse_init cd_Purse_init ct_Purse_init oc_Purse_at kV_Purse_at dc_Purse_at pm_Purse_at cd_Purse_at ct_Purse_at oc_Purse_coins kV_Purse_coins dc_Purse_coins pm_Purse_coins cd_Purse_coins ct_Purse_coins oc_Purse_plus kV_Purse_plus dc_Purse_plus pm_Purse_plus cd_Purse_plus ct_Purse_plus oc_Purse_minus kV_Purse_minus dc_Purse_minus pm_Purse_minus cd_Purse_minus ct_Purse_minus oc_Purse_times kV_Purse_times dc_Purse_times pm_Purse_times cd_Purse_times ct_Purse_times oc_Purse_rows kV_Purse_rows dc_Purse_rows pm_Purse_rows cd_Purse_rows ct_Purse_rows oc_Purse_eq kV_Purse_eq dc_Purse_eq pm_Purse_eq cd_Purse_eq ct_Purse_eq oc_inner kV_inner dc_inner pm_inner cd_inner ct_inner oc_cut kV_cut dc_cut pm_cut cd_cut ct_cut oc_cost dc_cost pm_cost cd_cost ct_cost oc_fresh kV_fresh dc_fresh pm_fresh cd_fresh ct_fresh oc_was_under kV_was_under dc_was_under pm_was_under cd_was_under ct_was_under oc_first_fresh kV_first_fresh dc_first_fresh pm_first_fresh cd_first_fresh ct_first_fresh oc_cost_by_last kV_cost_by_last dc_cost_by_last pm_cost_by_last cd_cost_by_last ct_cost_by_last oc_l_cell kV_l_cell dc_l_cell pm_l_cell cd_l_cell ct_l_cell oc_l_digits kV_l_digits dc_l_digits pm_l_digits cd_l_digits ct_l_digits oc_l_names kV_l_names dc_l_names pm_l_names cd_l_names ct_l_names oc_l_path kV_l_path dc_l_path pm_l_path cd_l_path ct_l_path oc_l_since kV_l_since dc_l_since pm_l_since cd_l_since ct_l_since oc_l_frac kV_l_frac dc_l_frac pm_l_frac cd_l_frac ct_l_frac oc_l_plus kV_l_plus dc_l_plus pm_l_plus cd_l_plus ct_l_plus oc_l_add kV_l_add dc_l_add pm_l_add cd_l_add ct_l_add oc_l_due kV_l_due dc_l_due pm_l_due cd_l_due ct_l_due oc_l_inner kV_l_inner dc_l_inner pm_l_inner cd_l_inner ct_l_inner oc_l_same kV_l_same dc_l_same pm_l_same cd_l_same ct_l_same oc_l_whole kV_l_whole dc_l_whole pm_l_whole cd_l_whole ct_l_whole oc_l_told kV_l_told dc_l_told pm_l_told cd_l_told ct_l_told oc_l_told_all kV_l_told_all dc_l_told_all pm_l_told_all cd_l_told_all ct_l_told_all oc_law kV_law dc_law pm_law cd_law ct_law : Value}
    {tc_Part_init : Value} {td_Part_init : Option Addr} {its_Part_init : List Value} {tn_Part_init : Nat} {ts_Part_init : Array (Option Value)}
    {tc_Purse_init : Value} {td_Purse_init : Option Addr} {its_Purse_init : List Value} {tn_Purse_init : Nat} {ts_Purse_init : Array (Option Value)}
    {etd_t_rows : Option Addr} {eti_t_rows : Array Value} {etn_t_rows : Nat} {ets_t_rows : Array (Option Value)}
    (g_inner : PySem.W.nsIn K mainGlobals "inner" = some (some (.ref f_inner)))
    (g_cut : PySem.W.nsIn K mainGlobals "cut" = some (some (.ref f_cut)))
    (g_cost : PySem.W.nsIn K mainGlobals "cost" = some (some (.ref f_cost)))
    (g_fresh : PySem.W.nsIn K mainGlobals "fresh" = some (some (.ref f_fresh)))
    (g_was_under : PySem.W.nsIn K mainGlobals "_was_under" = some (some (.ref f_was_under)))
    (g_first_fresh : PySem.W.nsIn K mainGlobals "_first_fresh" = some (some (.ref f_first_fresh)))
    (g_cost_by_last : PySem.W.nsIn K mainGlobals "_cost_by_last" = some (some (.ref f_cost_by_last)))
    (g_l_cell : PySem.W.nsIn K mainGlobals "_law_cell" = some (some (.ref f_l_cell)))
    (g_l_digits : PySem.W.nsIn K mainGlobals "_law_digits" = some (some (.ref f_l_digits)))
    (g_l_names : PySem.W.nsIn K mainGlobals "_law_names" = some (some (.ref f_l_names)))
    (g_l_path : PySem.W.nsIn K mainGlobals "_law_path" = some (some (.ref f_l_path)))
    (g_l_since : PySem.W.nsIn K mainGlobals "_law_since" = some (some (.ref f_l_since)))
    (g_l_frac : PySem.W.nsIn K mainGlobals "_law_frac" = some (some (.ref f_l_frac)))
    (g_l_plus : PySem.W.nsIn K mainGlobals "_law_plus" = some (some (.ref f_l_plus)))
    (g_l_add : PySem.W.nsIn K mainGlobals "_law_add" = some (some (.ref f_l_add)))
    (g_l_due : PySem.W.nsIn K mainGlobals "_law_due" = some (some (.ref f_l_due)))
    (g_l_inner : PySem.W.nsIn K mainGlobals "_law_inner" = some (some (.ref f_l_inner)))
    (g_l_same : PySem.W.nsIn K mainGlobals "_law_same" = some (some (.ref f_l_same)))
    (g_l_whole : PySem.W.nsIn K mainGlobals "_law_whole" = some (some (.ref f_l_whole)))
    (g_l_told : PySem.W.nsIn K mainGlobals "_law_told" = some (some (.ref f_l_told)))
    (g_l_told_all : PySem.W.nsIn K mainGlobals "_law_told_all" = some (some (.ref f_l_told_all)))
    (g_law : PySem.W.nsIn K mainGlobals "law" = some (some (.ref f_law)))
    (g_Part : PySem.W.nsIn K mainGlobals "Part" = some (some (.ref C_Part)))
    (in_Part : PySem.W.findIn K (.ref C_Part) "__init__" = some (some (.ref f_Part_init)))
    (ma_Part_plus : PySem.W.findIn K (.ref C_Part) "plus" = some (some (.ref f_Part_plus)))
    (ma_Part_times : PySem.W.findIn K (.ref C_Part) "times" = some (some (.ref f_Part_times)))
    (ma_Part_sign : PySem.W.findIn K (.ref C_Part) "sign" = some (some (.ref f_Part_sign)))
    (ma_Part_eq : PySem.W.findIn K (.ref C_Part) "__eq__" = some (some (.ref f_Part_eq)))
    (g_Purse : PySem.W.nsIn K mainGlobals "Purse" = some (some (.ref C_Purse)))
    (in_Purse : PySem.W.findIn K (.ref C_Purse) "__init__" = some (some (.ref f_Purse_init)))
    (ma_Purse_at : PySem.W.findIn K (.ref C_Purse) "at" = some (some (.ref f_Purse_at)))
    (ma_Purse_coins : PySem.W.findIn K (.ref C_Purse) "coins" = some (some (.ref f_Purse_coins)))
    (ma_Purse_plus : PySem.W.findIn K (.ref C_Purse) "plus" = some (some (.ref f_Purse_plus)))
    (ma_Purse_minus : PySem.W.findIn K (.ref C_Purse) "minus" = some (some (.ref f_Purse_minus)))
    (ma_Purse_times : PySem.W.findIn K (.ref C_Purse) "times" = some (some (.ref f_Purse_times)))
    (ma_Purse_rows : PySem.W.findIn K (.ref C_Purse) "_rows" = some (some (.ref f_Purse_rows)))
    (ma_Purse_eq : PySem.W.findIn K (.ref C_Purse) "__eq__" = some (some (.ref f_Purse_eq)))
    (l_Part_init : K.lookup f_Part_init = some ⟨oc_Part_init, od_Part_init, .func (PySem.W.fnOf "__init__" "Part.__init__" (defArgs s_Part_init) (defBody s_Part_init) (defScope s_Part_init) (.ref T_Part_init) kV_Part_init dc_Part_init pm_Part_init an_Part_init cd_Part_init ct_Part_init), sl_Part_init⟩)
    (c_Part_init : PySem.W.codeIn K cd_Part_init "Part.__init__" = true)
    (k_Part_init : PySem.W.keepIn K (.ref f_Part_init) = true)
    (lT_Part_init : K.lookup T_Part_init = some ⟨tc_Part_init, td_Part_init, .seq its_Part_init.toArray tn_Part_init, ts_Part_init⟩)
    (vT_Part_init : Vals [V.int 1] its_Part_init)
    (l_Part_plus : K.lookup f_Part_plus = some ⟨oc_Part_plus, od_Part_plus, .func (PySem.W.fnOf "plus" "Part.plus" (defArgs s_Part_plus) (defBody s_Part_plus) (defScope s_Part_plus) .none kV_Part_plus dc_Part_plus pm_Part_plus an_Part_plus cd_Part_plus ct_Part_plus), sl_Part_plus⟩)
    (c_Part_plus : PySem.W.codeIn K cd_Part_plus "Part.plus" = true)
    (k_Part_plus : PySem.W.keepIn K (.ref f_Part_plus) = true)
    (l_Part_times : K.lookup f_Part_times = some ⟨oc_Part_times, od_Part_times, .func (PySem.W.fnOf "times" "Part.times" (defArgs s_Part_times) (defBody s_Part_times) (defScope s_Part_times) .none kV_Part_times dc_Part_times pm_Part_times an_Part_times cd_Part_times ct_Part_times), sl_Part_times⟩)
    (c_Part_times : PySem.W.codeIn K cd_Part_times "Part.times" = true)
    (k_Part_times : PySem.W.keepIn K (.ref f_Part_times) = true)
    (l_Part_sign : K.lookup f_Part_sign = some ⟨oc_Part_sign, od_Part_sign, .func (PySem.W.fnOf "sign" "Part.sign" (defArgs s_Part_sign) (defBody s_Part_sign) (defScope s_Part_sign) .none kV_Part_sign dc_Part_sign pm_Part_sign an_Part_sign cd_Part_sign ct_Part_sign), sl_Part_sign⟩)
    (c_Part_sign : PySem.W.codeIn K cd_Part_sign "Part.sign" = true)
    (k_Part_sign : PySem.W.keepIn K (.ref f_Part_sign) = true)
    (l_Part_eq : K.lookup f_Part_eq = some ⟨oc_Part_eq, od_Part_eq, .func (PySem.W.fnOf "__eq__" "Part.__eq__" (defArgs s_Part_eq) (defBody s_Part_eq) (defScope s_Part_eq) .none kV_Part_eq dc_Part_eq pm_Part_eq an_Part_eq cd_Part_eq ct_Part_eq), sl_Part_eq⟩)
    (c_Part_eq : PySem.W.codeIn K cd_Part_eq "Part.__eq__" = true)
    (k_Part_eq : PySem.W.keepIn K (.ref f_Part_eq) = true)
    (l_Purse_init : K.lookup f_Purse_init = some ⟨oc_Purse_init, od_Purse_init, .func (PySem.W.fnOf "__init__" "Purse.__init__" (defArgs s_Purse_init) (defBody s_Purse_init) (defScope s_Purse_init) (.ref T_Purse_init) kV_Purse_init dc_Purse_init pm_Purse_init an_Purse_init cd_Purse_init ct_Purse_init), sl_Purse_init⟩)
    (c_Purse_init : PySem.W.codeIn K cd_Purse_init "Purse.__init__" = true)
    (k_Purse_init : PySem.W.keepIn K (.ref f_Purse_init) = true)
    (lT_Purse_init : K.lookup T_Purse_init = some ⟨tc_Purse_init, td_Purse_init, .seq its_Purse_init.toArray tn_Purse_init, ts_Purse_init⟩)
    (vT_Purse_init : Vals [V.ref t_rows] its_Purse_init)
    (l_Purse_at : K.lookup f_Purse_at = some ⟨oc_Purse_at, od_Purse_at, .func (PySem.W.fnOf "at" "Purse.at" (defArgs s_Purse_at) (defBody s_Purse_at) (defScope s_Purse_at) .none kV_Purse_at dc_Purse_at pm_Purse_at an_Purse_at cd_Purse_at ct_Purse_at), sl_Purse_at⟩)
    (c_Purse_at : PySem.W.codeIn K cd_Purse_at "Purse.at" = true)
    (k_Purse_at : PySem.W.keepIn K (.ref f_Purse_at) = true)
    (l_Purse_coins : K.lookup f_Purse_coins = some ⟨oc_Purse_coins, od_Purse_coins, .func (PySem.W.fnOf "coins" "Purse.coins" (defArgs s_Purse_coins) (defBody s_Purse_coins) (defScope s_Purse_coins) .none kV_Purse_coins dc_Purse_coins pm_Purse_coins an_Purse_coins cd_Purse_coins ct_Purse_coins), sl_Purse_coins⟩)
    (c_Purse_coins : PySem.W.codeIn K cd_Purse_coins "Purse.coins" = true)
    (k_Purse_coins : PySem.W.keepIn K (.ref f_Purse_coins) = true)
    (l_Purse_plus : K.lookup f_Purse_plus = some ⟨oc_Purse_plus, od_Purse_plus, .func (PySem.W.fnOf "plus" "Purse.plus" (defArgs s_Purse_plus) (defBody s_Purse_plus) (defScope s_Purse_plus) .none kV_Purse_plus dc_Purse_plus pm_Purse_plus an_Purse_plus cd_Purse_plus ct_Purse_plus), sl_Purse_plus⟩)
    (c_Purse_plus : PySem.W.codeIn K cd_Purse_plus "Purse.plus" = true)
    (k_Purse_plus : PySem.W.keepIn K (.ref f_Purse_plus) = true)
    (l_Purse_minus : K.lookup f_Purse_minus = some ⟨oc_Purse_minus, od_Purse_minus, .func (PySem.W.fnOf "minus" "Purse.minus" (defArgs s_Purse_minus) (defBody s_Purse_minus) (defScope s_Purse_minus) .none kV_Purse_minus dc_Purse_minus pm_Purse_minus an_Purse_minus cd_Purse_minus ct_Purse_minus), sl_Purse_minus⟩)
    (c_Purse_minus : PySem.W.codeIn K cd_Purse_minus "Purse.minus" = true)
    (k_Purse_minus : PySem.W.keepIn K (.ref f_Purse_minus) = true)
    (l_Purse_times : K.lookup f_Purse_times = some ⟨oc_Purse_times, od_Purse_times, .func (PySem.W.fnOf "times" "Purse.times" (defArgs s_Purse_times) (defBody s_Purse_times) (defScope s_Purse_times) .none kV_Purse_times dc_Purse_times pm_Purse_times an_Purse_times cd_Purse_times ct_Purse_times), sl_Purse_times⟩)
    (c_Purse_times : PySem.W.codeIn K cd_Purse_times "Purse.times" = true)
    (k_Purse_times : PySem.W.keepIn K (.ref f_Purse_times) = true)
    (l_Purse_rows : K.lookup f_Purse_rows = some ⟨oc_Purse_rows, od_Purse_rows, .func (PySem.W.fnOf "_rows" "Purse._rows" (defArgs s_Purse_rows) (defBody s_Purse_rows) (defScope s_Purse_rows) .none kV_Purse_rows dc_Purse_rows pm_Purse_rows an_Purse_rows cd_Purse_rows ct_Purse_rows), sl_Purse_rows⟩)
    (c_Purse_rows : PySem.W.codeIn K cd_Purse_rows "Purse._rows" = true)
    (k_Purse_rows : PySem.W.keepIn K (.ref f_Purse_rows) = true)
    (l_Purse_eq : K.lookup f_Purse_eq = some ⟨oc_Purse_eq, od_Purse_eq, .func (PySem.W.fnOf "__eq__" "Purse.__eq__" (defArgs s_Purse_eq) (defBody s_Purse_eq) (defScope s_Purse_eq) .none kV_Purse_eq dc_Purse_eq pm_Purse_eq an_Purse_eq cd_Purse_eq ct_Purse_eq), sl_Purse_eq⟩)
    (c_Purse_eq : PySem.W.codeIn K cd_Purse_eq "Purse.__eq__" = true)
    (k_Purse_eq : PySem.W.keepIn K (.ref f_Purse_eq) = true)
    (l_inner : K.lookup f_inner = some ⟨oc_inner, od_inner, .func (PySem.W.fnOf "inner" "inner" (defArgs s_inner) (defBody s_inner) (defScope s_inner) .none kV_inner dc_inner pm_inner an_inner cd_inner ct_inner), sl_inner⟩)
    (c_inner : PySem.W.codeIn K cd_inner "inner" = true)
    (k_inner : PySem.W.keepIn K (.ref f_inner) = true)
    (l_cut : K.lookup f_cut = some ⟨oc_cut, od_cut, .func (PySem.W.fnOf "cut" "cut" (defArgs s_cut) (defBody s_cut) (defScope s_cut) .none kV_cut dc_cut pm_cut an_cut cd_cut ct_cut), sl_cut⟩)
    (c_cut : PySem.W.codeIn K cd_cut "cut" = true)
    (k_cut : PySem.W.keepIn K (.ref f_cut) = true)
    (l_cost : K.lookup f_cost = some ⟨oc_cost, od_cost, .func (PySem.W.fnOf "cost" "cost" (defArgs s_cost) (defBody s_cost) (defScope s_cost) .none (.ref KD_cost) dc_cost pm_cost an_cost cd_cost ct_cost), sl_cost⟩)
    (c_cost : PySem.W.codeIn K cd_cost "cost" = true)
    (k_cost : PySem.W.keepIn K (.ref f_cost) = true)
    (hK_cost_since : PySem.W.nsIn K KD_cost "since" = some (some .none))
    (l_fresh : K.lookup f_fresh = some ⟨oc_fresh, od_fresh, .func (PySem.W.fnOf "fresh" "fresh" (defArgs s_fresh) (defBody s_fresh) (defScope s_fresh) .none kV_fresh dc_fresh pm_fresh an_fresh cd_fresh ct_fresh), sl_fresh⟩)
    (c_fresh : PySem.W.codeIn K cd_fresh "fresh" = true)
    (k_fresh : PySem.W.keepIn K (.ref f_fresh) = true)
    (l_was_under : K.lookup f_was_under = some ⟨oc_was_under, od_was_under, .func (PySem.W.fnOf "_was_under" "_was_under" (defArgs s_was_under) (defBody s_was_under) (defScope s_was_under) .none kV_was_under dc_was_under pm_was_under an_was_under cd_was_under ct_was_under), sl_was_under⟩)
    (c_was_under : PySem.W.codeIn K cd_was_under "_was_under" = true)
    (k_was_under : PySem.W.keepIn K (.ref f_was_under) = true)
    (l_first_fresh : K.lookup f_first_fresh = some ⟨oc_first_fresh, od_first_fresh, .func (PySem.W.fnOf "_first_fresh" "_first_fresh" (defArgs s_first_fresh) (defBody s_first_fresh) (defScope s_first_fresh) .none kV_first_fresh dc_first_fresh pm_first_fresh an_first_fresh cd_first_fresh ct_first_fresh), sl_first_fresh⟩)
    (c_first_fresh : PySem.W.codeIn K cd_first_fresh "_first_fresh" = true)
    (k_first_fresh : PySem.W.keepIn K (.ref f_first_fresh) = true)
    (l_cost_by_last : K.lookup f_cost_by_last = some ⟨oc_cost_by_last, od_cost_by_last, .func (PySem.W.fnOf "_cost_by_last" "_cost_by_last" (defArgs s_cost_by_last) (defBody s_cost_by_last) (defScope s_cost_by_last) .none kV_cost_by_last dc_cost_by_last pm_cost_by_last an_cost_by_last cd_cost_by_last ct_cost_by_last), sl_cost_by_last⟩)
    (c_cost_by_last : PySem.W.codeIn K cd_cost_by_last "_cost_by_last" = true)
    (k_cost_by_last : PySem.W.keepIn K (.ref f_cost_by_last) = true)
    (l_l_cell : K.lookup f_l_cell = some ⟨oc_l_cell, od_l_cell, .func (PySem.W.fnOf "_law_cell" "_law_cell" (defArgs s_l_cell) (defBody s_l_cell) (defScope s_l_cell) .none kV_l_cell dc_l_cell pm_l_cell an_l_cell cd_l_cell ct_l_cell), sl_l_cell⟩)
    (c_l_cell : PySem.W.codeIn K cd_l_cell "_law_cell" = true)
    (k_l_cell : PySem.W.keepIn K (.ref f_l_cell) = true)
    (l_l_digits : K.lookup f_l_digits = some ⟨oc_l_digits, od_l_digits, .func (PySem.W.fnOf "_law_digits" "_law_digits" (defArgs s_l_digits) (defBody s_l_digits) (defScope s_l_digits) .none kV_l_digits dc_l_digits pm_l_digits an_l_digits cd_l_digits ct_l_digits), sl_l_digits⟩)
    (c_l_digits : PySem.W.codeIn K cd_l_digits "_law_digits" = true)
    (k_l_digits : PySem.W.keepIn K (.ref f_l_digits) = true)
    (l_l_names : K.lookup f_l_names = some ⟨oc_l_names, od_l_names, .func (PySem.W.fnOf "_law_names" "_law_names" (defArgs s_l_names) (defBody s_l_names) (defScope s_l_names) .none kV_l_names dc_l_names pm_l_names an_l_names cd_l_names ct_l_names), sl_l_names⟩)
    (c_l_names : PySem.W.codeIn K cd_l_names "_law_names" = true)
    (k_l_names : PySem.W.keepIn K (.ref f_l_names) = true)
    (l_l_path : K.lookup f_l_path = some ⟨oc_l_path, od_l_path, .func (PySem.W.fnOf "_law_path" "_law_path" (defArgs s_l_path) (defBody s_l_path) (defScope s_l_path) .none kV_l_path dc_l_path pm_l_path an_l_path cd_l_path ct_l_path), sl_l_path⟩)
    (c_l_path : PySem.W.codeIn K cd_l_path "_law_path" = true)
    (k_l_path : PySem.W.keepIn K (.ref f_l_path) = true)
    (l_l_since : K.lookup f_l_since = some ⟨oc_l_since, od_l_since, .func (PySem.W.fnOf "_law_since" "_law_since" (defArgs s_l_since) (defBody s_l_since) (defScope s_l_since) .none kV_l_since dc_l_since pm_l_since an_l_since cd_l_since ct_l_since), sl_l_since⟩)
    (c_l_since : PySem.W.codeIn K cd_l_since "_law_since" = true)
    (k_l_since : PySem.W.keepIn K (.ref f_l_since) = true)
    (l_l_frac : K.lookup f_l_frac = some ⟨oc_l_frac, od_l_frac, .func (PySem.W.fnOf "_law_frac" "_law_frac" (defArgs s_l_frac) (defBody s_l_frac) (defScope s_l_frac) .none kV_l_frac dc_l_frac pm_l_frac an_l_frac cd_l_frac ct_l_frac), sl_l_frac⟩)
    (c_l_frac : PySem.W.codeIn K cd_l_frac "_law_frac" = true)
    (k_l_frac : PySem.W.keepIn K (.ref f_l_frac) = true)
    (l_l_plus : K.lookup f_l_plus = some ⟨oc_l_plus, od_l_plus, .func (PySem.W.fnOf "_law_plus" "_law_plus" (defArgs s_l_plus) (defBody s_l_plus) (defScope s_l_plus) .none kV_l_plus dc_l_plus pm_l_plus an_l_plus cd_l_plus ct_l_plus), sl_l_plus⟩)
    (c_l_plus : PySem.W.codeIn K cd_l_plus "_law_plus" = true)
    (k_l_plus : PySem.W.keepIn K (.ref f_l_plus) = true)
    (l_l_add : K.lookup f_l_add = some ⟨oc_l_add, od_l_add, .func (PySem.W.fnOf "_law_add" "_law_add" (defArgs s_l_add) (defBody s_l_add) (defScope s_l_add) .none kV_l_add dc_l_add pm_l_add an_l_add cd_l_add ct_l_add), sl_l_add⟩)
    (c_l_add : PySem.W.codeIn K cd_l_add "_law_add" = true)
    (k_l_add : PySem.W.keepIn K (.ref f_l_add) = true)
    (l_l_due : K.lookup f_l_due = some ⟨oc_l_due, od_l_due, .func (PySem.W.fnOf "_law_due" "_law_due" (defArgs s_l_due) (defBody s_l_due) (defScope s_l_due) .none kV_l_due dc_l_due pm_l_due an_l_due cd_l_due ct_l_due), sl_l_due⟩)
    (c_l_due : PySem.W.codeIn K cd_l_due "_law_due" = true)
    (k_l_due : PySem.W.keepIn K (.ref f_l_due) = true)
    (l_l_inner : K.lookup f_l_inner = some ⟨oc_l_inner, od_l_inner, .func (PySem.W.fnOf "_law_inner" "_law_inner" (defArgs s_l_inner) (defBody s_l_inner) (defScope s_l_inner) .none kV_l_inner dc_l_inner pm_l_inner an_l_inner cd_l_inner ct_l_inner), sl_l_inner⟩)
    (c_l_inner : PySem.W.codeIn K cd_l_inner "_law_inner" = true)
    (k_l_inner : PySem.W.keepIn K (.ref f_l_inner) = true)
    (l_l_same : K.lookup f_l_same = some ⟨oc_l_same, od_l_same, .func (PySem.W.fnOf "_law_same" "_law_same" (defArgs s_l_same) (defBody s_l_same) (defScope s_l_same) .none kV_l_same dc_l_same pm_l_same an_l_same cd_l_same ct_l_same), sl_l_same⟩)
    (c_l_same : PySem.W.codeIn K cd_l_same "_law_same" = true)
    (k_l_same : PySem.W.keepIn K (.ref f_l_same) = true)
    (l_l_whole : K.lookup f_l_whole = some ⟨oc_l_whole, od_l_whole, .func (PySem.W.fnOf "_law_whole" "_law_whole" (defArgs s_l_whole) (defBody s_l_whole) (defScope s_l_whole) .none kV_l_whole dc_l_whole pm_l_whole an_l_whole cd_l_whole ct_l_whole), sl_l_whole⟩)
    (c_l_whole : PySem.W.codeIn K cd_l_whole "_law_whole" = true)
    (k_l_whole : PySem.W.keepIn K (.ref f_l_whole) = true)
    (l_l_told : K.lookup f_l_told = some ⟨oc_l_told, od_l_told, .func (PySem.W.fnOf "_law_told" "_law_told" (defArgs s_l_told) (defBody s_l_told) (defScope s_l_told) .none kV_l_told dc_l_told pm_l_told an_l_told cd_l_told ct_l_told), sl_l_told⟩)
    (c_l_told : PySem.W.codeIn K cd_l_told "_law_told" = true)
    (k_l_told : PySem.W.keepIn K (.ref f_l_told) = true)
    (l_l_told_all : K.lookup f_l_told_all = some ⟨oc_l_told_all, od_l_told_all, .func (PySem.W.fnOf "_law_told_all" "_law_told_all" (defArgs s_l_told_all) (defBody s_l_told_all) (defScope s_l_told_all) .none kV_l_told_all dc_l_told_all pm_l_told_all an_l_told_all cd_l_told_all ct_l_told_all), sl_l_told_all⟩)
    (c_l_told_all : PySem.W.codeIn K cd_l_told_all "_law_told_all" = true)
    (k_l_told_all : PySem.W.keepIn K (.ref f_l_told_all) = true)
    (l_law : K.lookup f_law = some ⟨oc_law, od_law, .func (PySem.W.fnOf "law" "law" (defArgs s_law) (defBody s_law) (defScope s_law) .none kV_law dc_law pm_law an_law cd_law ct_law), sl_law⟩)
    (c_law : PySem.W.codeIn K cd_law "law" = true)
    (k_law : PySem.W.keepIn K (.ref f_law) = true)
    (h_kp_Part : PySem.W.keepIn K (.ref C_Part) = true)
    (pg_Part : PySem.W.plainGet K C_Part Str.empty = true)
    (hd_Part : PySem.W.hasDictIn K C_Part = true)
    (po_Part : PySem.W.plainOver K C_Part = true)
    (sa_Part : PySem.W.findIn K (.ref C_Part) "__setattr__" = some (some (.builtin "object.__setattr__")))
    (mk_Part : PySem.W.makesIn K C_Part = true)
    (if_Part : PySem.W.isFn K (.ref f_Part_init) = true)
    (mf_Part_plus : PySem.W.isFn K (.ref f_Part_plus) = true)
    (mf_Part_times : PySem.W.isFn K (.ref f_Part_times) = true)
    (mf_Part_sign : PySem.W.isFn K (.ref f_Part_sign) = true)
    (mf_Part_eq : PySem.W.isFn K (.ref f_Part_eq) = true)
    (h_na_Part_top : PySem.W.findIn K (.ref C_Part) "top" = some none)
    (h_na_Part_low : PySem.W.findIn K (.ref C_Part) "low" = some none)
    (h_mro_Part : PySem.W.mroIn K C_Part (.type "object") = some true)
    (h_cc_Part : PySem.W.findIn K (.ref C_Part) "__class__" = some (some (.builtin "object.__class__")))
    (h_ne_Part : PySem.W.findIn K (.ref C_Part) "__ne__" = some (some (.builtin "object.__ne__")))
    (h_nf_Part_Part : PySem.W.notFirst K C_Part (.ref C_Part) = true)
    (h_kp_Purse : PySem.W.keepIn K (.ref C_Purse) = true)
    (pg_Purse : PySem.W.plainGet K C_Purse Str.empty = true)
    (hd_Purse : PySem.W.hasDictIn K C_Purse = true)
    (po_Purse : PySem.W.plainOver K C_Purse = true)
    (sa_Purse : PySem.W.findIn K (.ref C_Purse) "__setattr__" = some (some (.builtin "object.__setattr__")))
    (mk_Purse : PySem.W.makesIn K C_Purse = true)
    (if_Purse : PySem.W.isFn K (.ref f_Purse_init) = true)
    (mf_Purse_at : PySem.W.isFn K (.ref f_Purse_at) = true)
    (mf_Purse_coins : PySem.W.isFn K (.ref f_Purse_coins) = true)
    (mf_Purse_plus : PySem.W.isFn K (.ref f_Purse_plus) = true)
    (mf_Purse_minus : PySem.W.isFn K (.ref f_Purse_minus) = true)
    (mf_Purse_times : PySem.W.isFn K (.ref f_Purse_times) = true)
    (mf_Purse_rows : PySem.W.isFn K (.ref f_Purse_rows) = true)
    (mf_Purse_eq : PySem.W.isFn K (.ref f_Purse_eq) = true)
    (h_na_Purse__held : PySem.W.findIn K (.ref C_Purse) "_held" = some none)
    (h_mro_Purse : PySem.W.mroIn K C_Purse (.type "object") = some true)
    (h_cc_Purse : PySem.W.findIn K (.ref C_Purse) "__class__" = some (some (.builtin "object.__class__")))
    (h_nf_Purse_Purse : PySem.W.notFirst K C_Purse (.ref C_Purse) = true)
    (h_cget : PySem.W.specialIn K (.builtin "object.__class__") "__get__" = some (some (.builtin "getset_descriptor.__get__")))
    (h_ctk : PySem.W.takesIn K (.builtin "object.__class__") = some true)
    (lE_t_rows : K.lookup t_rows = some ⟨.type "tuple", etd_t_rows, .seq eti_t_rows etn_t_rows, ets_t_rows⟩)
    (vE_t_rows : Vals [] eti_t_rows.toList)
    (zE_t_rows : eti_t_rows.size ≤ sizeLine)
    (z_abs : PySem.W.nsIn K mainGlobals "abs" = some none)
    (z_all : PySem.W.nsIn K mainGlobals "all" = some none)
    (z_bool : PySem.W.nsIn K mainGlobals "bool" = some none)
    (z_dict : PySem.W.nsIn K mainGlobals "dict" = some none)
    (z_int : PySem.W.nsIn K mainGlobals "int" = some none)
    (z_isinstance : PySem.W.nsIn K mainGlobals "isinstance" = some none)
    (z_len : PySem.W.nsIn K mainGlobals "len" = some none)
    (z_list : PySem.W.nsIn K mainGlobals "list" = some none)
    (z_min : PySem.W.nsIn K mainGlobals "min" = some none)
    (z_range : PySem.W.nsIn K mainGlobals "range" = some none)
    (z_repr : PySem.W.nsIn K mainGlobals "repr" = some none)
    (z_sorted : PySem.W.nsIn K mainGlobals "sorted" = some none)
    (z_str : PySem.W.nsIn K mainGlobals "str" = some none)
    (z_tuple : PySem.W.nsIn K mainGlobals "tuple" = some none)
    (b_gcd : PySem.W.nsIn K mainGlobals "gcd" = some (some (.builtin "math.gcd")))
    : ∃ fd : FuncData, (∀ (s : Shared) (v : Value), BindsTo s fd ⟨[v], []⟩ [("_law_script", v)]) ∧ ∀ base : Heap, K.In base → base.Ns mainGlobals mg → FnG P w K mg base CX0 9 fa fd ["_law_script"] (spLaw K) := by
  have e := (PySem.W.mg_of X G g_law).symm.trans hfa
  cases e
  have T : Tx ⟨C_Part, C_Purse, f_Part_init, (PySem.W.fnOf "__init__" "Part.__init__" (defArgs s_Part_init) (defBody s_Part_init) (defScope s_Part_init) (.ref T_Part_init) kV_Part_init dc_Part_init pm_Part_init an_Part_init cd_Part_init ct_Part_init), f_Part_plus, (PySem.W.fnOf "plus" "Part.plus" (defArgs s_Part_plus) (defBody s_Part_plus) (defScope s_Part_plus) .none kV_Part_plus dc_Part_plus pm_Part_plus an_Part_plus cd_Part_plus ct_Part_plus), f_Part_times, (PySem.W.fnOf "times" "Part.times" (defArgs s_Part_times) (defBody s_Part_times) (defScope s_Part_times) .none kV_Part_times dc_Part_times pm_Part_times an_Part_times cd_Part_times ct_Part_times), f_Part_sign, (PySem.W.fnOf "sign" "Part.sign" (defArgs s_Part_sign) (defBody s_Part_sign) (defScope s_Part_sign) .none kV_Part_sign dc_Part_sign pm_Part_sign an_Part_sign cd_Part_sign ct_Part_sign), f_Part_eq, (PySem.W.fnOf "__eq__" "Part.__eq__" (defArgs s_Part_eq) (defBody s_Part_eq) (defScope s_Part_eq) .none kV_Part_eq dc_Part_eq pm_Part_eq an_Part_eq cd_Part_eq ct_Part_eq), f_Purse_init, (PySem.W.fnOf "__init__" "Purse.__init__" (defArgs s_Purse_init) (defBody s_Purse_init) (defScope s_Purse_init) (.ref T_Purse_init) kV_Purse_init dc_Purse_init pm_Purse_init an_Purse_init cd_Purse_init ct_Purse_init), f_Purse_at, (PySem.W.fnOf "at" "Purse.at" (defArgs s_Purse_at) (defBody s_Purse_at) (defScope s_Purse_at) .none kV_Purse_at dc_Purse_at pm_Purse_at an_Purse_at cd_Purse_at ct_Purse_at), f_Purse_coins, (PySem.W.fnOf "coins" "Purse.coins" (defArgs s_Purse_coins) (defBody s_Purse_coins) (defScope s_Purse_coins) .none kV_Purse_coins dc_Purse_coins pm_Purse_coins an_Purse_coins cd_Purse_coins ct_Purse_coins), f_Purse_plus, (PySem.W.fnOf "plus" "Purse.plus" (defArgs s_Purse_plus) (defBody s_Purse_plus) (defScope s_Purse_plus) .none kV_Purse_plus dc_Purse_plus pm_Purse_plus an_Purse_plus cd_Purse_plus ct_Purse_plus), f_Purse_minus, (PySem.W.fnOf "minus" "Purse.minus" (defArgs s_Purse_minus) (defBody s_Purse_minus) (defScope s_Purse_minus) .none kV_Purse_minus dc_Purse_minus pm_Purse_minus an_Purse_minus cd_Purse_minus ct_Purse_minus), f_Purse_times, (PySem.W.fnOf "times" "Purse.times" (defArgs s_Purse_times) (defBody s_Purse_times) (defScope s_Purse_times) .none kV_Purse_times dc_Purse_times pm_Purse_times an_Purse_times cd_Purse_times ct_Purse_times), f_Purse_rows, (PySem.W.fnOf "_rows" "Purse._rows" (defArgs s_Purse_rows) (defBody s_Purse_rows) (defScope s_Purse_rows) .none kV_Purse_rows dc_Purse_rows pm_Purse_rows an_Purse_rows cd_Purse_rows ct_Purse_rows), f_Purse_eq, (PySem.W.fnOf "__eq__" "Purse.__eq__" (defArgs s_Purse_eq) (defBody s_Purse_eq) (defScope s_Purse_eq) .none kV_Purse_eq dc_Purse_eq pm_Purse_eq an_Purse_eq cd_Purse_eq ct_Purse_eq), f_inner, (PySem.W.fnOf "inner" "inner" (defArgs s_inner) (defBody s_inner) (defScope s_inner) .none kV_inner dc_inner pm_inner an_inner cd_inner ct_inner), f_cut, (PySem.W.fnOf "cut" "cut" (defArgs s_cut) (defBody s_cut) (defScope s_cut) .none kV_cut dc_cut pm_cut an_cut cd_cut ct_cut), f_cost, (PySem.W.fnOf "cost" "cost" (defArgs s_cost) (defBody s_cost) (defScope s_cost) .none (.ref KD_cost) dc_cost pm_cost an_cost cd_cost ct_cost), f_fresh, (PySem.W.fnOf "fresh" "fresh" (defArgs s_fresh) (defBody s_fresh) (defScope s_fresh) .none kV_fresh dc_fresh pm_fresh an_fresh cd_fresh ct_fresh), f_was_under, (PySem.W.fnOf "_was_under" "_was_under" (defArgs s_was_under) (defBody s_was_under) (defScope s_was_under) .none kV_was_under dc_was_under pm_was_under an_was_under cd_was_under ct_was_under), f_first_fresh, (PySem.W.fnOf "_first_fresh" "_first_fresh" (defArgs s_first_fresh) (defBody s_first_fresh) (defScope s_first_fresh) .none kV_first_fresh dc_first_fresh pm_first_fresh an_first_fresh cd_first_fresh ct_first_fresh), f_cost_by_last, (PySem.W.fnOf "_cost_by_last" "_cost_by_last" (defArgs s_cost_by_last) (defBody s_cost_by_last) (defScope s_cost_by_last) .none kV_cost_by_last dc_cost_by_last pm_cost_by_last an_cost_by_last cd_cost_by_last ct_cost_by_last), f_l_cell, (PySem.W.fnOf "_law_cell" "_law_cell" (defArgs s_l_cell) (defBody s_l_cell) (defScope s_l_cell) .none kV_l_cell dc_l_cell pm_l_cell an_l_cell cd_l_cell ct_l_cell), f_l_digits, (PySem.W.fnOf "_law_digits" "_law_digits" (defArgs s_l_digits) (defBody s_l_digits) (defScope s_l_digits) .none kV_l_digits dc_l_digits pm_l_digits an_l_digits cd_l_digits ct_l_digits), f_l_names, (PySem.W.fnOf "_law_names" "_law_names" (defArgs s_l_names) (defBody s_l_names) (defScope s_l_names) .none kV_l_names dc_l_names pm_l_names an_l_names cd_l_names ct_l_names), f_l_path, (PySem.W.fnOf "_law_path" "_law_path" (defArgs s_l_path) (defBody s_l_path) (defScope s_l_path) .none kV_l_path dc_l_path pm_l_path an_l_path cd_l_path ct_l_path), f_l_since, (PySem.W.fnOf "_law_since" "_law_since" (defArgs s_l_since) (defBody s_l_since) (defScope s_l_since) .none kV_l_since dc_l_since pm_l_since an_l_since cd_l_since ct_l_since), f_l_frac, (PySem.W.fnOf "_law_frac" "_law_frac" (defArgs s_l_frac) (defBody s_l_frac) (defScope s_l_frac) .none kV_l_frac dc_l_frac pm_l_frac an_l_frac cd_l_frac ct_l_frac), f_l_plus, (PySem.W.fnOf "_law_plus" "_law_plus" (defArgs s_l_plus) (defBody s_l_plus) (defScope s_l_plus) .none kV_l_plus dc_l_plus pm_l_plus an_l_plus cd_l_plus ct_l_plus), f_l_add, (PySem.W.fnOf "_law_add" "_law_add" (defArgs s_l_add) (defBody s_l_add) (defScope s_l_add) .none kV_l_add dc_l_add pm_l_add an_l_add cd_l_add ct_l_add), f_l_due, (PySem.W.fnOf "_law_due" "_law_due" (defArgs s_l_due) (defBody s_l_due) (defScope s_l_due) .none kV_l_due dc_l_due pm_l_due an_l_due cd_l_due ct_l_due), f_l_inner, (PySem.W.fnOf "_law_inner" "_law_inner" (defArgs s_l_inner) (defBody s_l_inner) (defScope s_l_inner) .none kV_l_inner dc_l_inner pm_l_inner an_l_inner cd_l_inner ct_l_inner), f_l_same, (PySem.W.fnOf "_law_same" "_law_same" (defArgs s_l_same) (defBody s_l_same) (defScope s_l_same) .none kV_l_same dc_l_same pm_l_same an_l_same cd_l_same ct_l_same), f_l_whole, (PySem.W.fnOf "_law_whole" "_law_whole" (defArgs s_l_whole) (defBody s_l_whole) (defScope s_l_whole) .none kV_l_whole dc_l_whole pm_l_whole an_l_whole cd_l_whole ct_l_whole), f_l_told, (PySem.W.fnOf "_law_told" "_law_told" (defArgs s_l_told) (defBody s_l_told) (defScope s_l_told) .none kV_l_told dc_l_told pm_l_told an_l_told cd_l_told ct_l_told), f_l_told_all, (PySem.W.fnOf "_law_told_all" "_law_told_all" (defArgs s_l_told_all) (defBody s_l_told_all) (defScope s_l_told_all) .none kV_l_told_all dc_l_told_all pm_l_told_all an_l_told_all cd_l_told_all ct_l_told_all), fa, (PySem.W.fnOf "law" "law" (defArgs s_law) (defBody s_law) (defScope s_law) .none kV_law dc_law pm_law an_law cd_law ct_law), t_rows⟩ K mg w := ⟨⟨⟨oc_Part_init, od_Part_init, .ref T_Part_init, kV_Part_init, dc_Part_init, pm_Part_init, an_Part_init, cd_Part_init, ct_Part_init, sl_Part_init, rfl, l_Part_init, c_Part_init, .inr ⟨List.cons_ne_nil _ _, T_Part_init, _, its_Part_init, tn_Part_init, rfl, lT_Part_init, rfl, vT_Part_init⟩, .inl rfl⟩, k_Part_init⟩, fun_mk (st := s_Part_plus) l_Part_plus c_Part_plus k_Part_plus, fun_mk (st := s_Part_times) l_Part_times c_Part_times k_Part_times, fun_mk (st := s_Part_sign) l_Part_sign c_Part_sign k_Part_sign, fun_mk (st := s_Part_eq) l_Part_eq c_Part_eq k_Part_eq, ⟨⟨oc_Purse_init, od_Purse_init, .ref T_Purse_init, kV_Purse_init, dc_Purse_init, pm_Purse_init, an_Purse_init, cd_Purse_init, ct_Purse_init, sl_Purse_init, rfl, l_Purse_init, c_Purse_init, .inr ⟨List.cons_ne_nil _ _, T_Purse_init, _, its_Purse_init, tn_Purse_init, rfl, lT_Purse_init, rfl, vT_Purse_init⟩, .inl rfl⟩, k_Purse_init⟩, fun_mk (st := s_Purse_at) l_Purse_at c_Purse_at k_Purse_at, fun_mk (st := s_Purse_coins) l_Purse_coins c_Purse_coins k_Purse_coins, fun_mk (st := s_Purse_plus) l_Purse_plus c_Purse_plus k_Purse_plus, fun_mk (st := s_Purse_minus) l_Purse_minus c_Purse_minus k_Purse_minus, fun_mk (st := s_Purse_times) l_Purse_times c_Purse_times k_Purse_times, fun_mk (st := s_Purse_rows) l_Purse_rows c_Purse_rows k_Purse_rows, fun_mk (st := s_Purse_eq) l_Purse_eq c_Purse_eq k_Purse_eq, fun_mk (st := s_inner) l_inner c_inner k_inner, PySem.W.mg_of X G g_inner, fun_mk (st := s_cut) l_cut c_cut k_cut, PySem.W.mg_of X G g_cut, ⟨⟨oc_cost, od_cost, .none, .ref KD_cost, dc_cost, pm_cost, an_cost, cd_cost, ct_cost, sl_cost, rfl, l_cost, c_cost, .inl ⟨rfl, rfl⟩, .inr ⟨KD_cost, rfl, fun q h => (fun h => (List.mem_cons.mp h).elim (fun e => e ▸ ⟨_, hK_cost_since, rfl⟩) (fun h => absurd h List.not_mem_nil)) h⟩⟩, k_cost⟩, PySem.W.mg_of X G g_cost, fun_mk (st := s_fresh) l_fresh c_fresh k_fresh, PySem.W.mg_of X G g_fresh, fun_mk (st := s_was_under) l_was_under c_was_under k_was_under, PySem.W.mg_of X G g_was_under, fun_mk (st := s_first_fresh) l_first_fresh c_first_fresh k_first_fresh, PySem.W.mg_of X G g_first_fresh, fun_mk (st := s_cost_by_last) l_cost_by_last c_cost_by_last k_cost_by_last, PySem.W.mg_of X G g_cost_by_last, fun_mk (st := s_l_cell) l_l_cell c_l_cell k_l_cell, PySem.W.mg_of X G g_l_cell, fun_mk (st := s_l_digits) l_l_digits c_l_digits k_l_digits, PySem.W.mg_of X G g_l_digits, fun_mk (st := s_l_names) l_l_names c_l_names k_l_names, PySem.W.mg_of X G g_l_names, fun_mk (st := s_l_path) l_l_path c_l_path k_l_path, PySem.W.mg_of X G g_l_path, fun_mk (st := s_l_since) l_l_since c_l_since k_l_since, PySem.W.mg_of X G g_l_since, fun_mk (st := s_l_frac) l_l_frac c_l_frac k_l_frac, PySem.W.mg_of X G g_l_frac, fun_mk (st := s_l_plus) l_l_plus c_l_plus k_l_plus, PySem.W.mg_of X G g_l_plus, fun_mk (st := s_l_add) l_l_add c_l_add k_l_add, PySem.W.mg_of X G g_l_add, fun_mk (st := s_l_due) l_l_due c_l_due k_l_due, PySem.W.mg_of X G g_l_due, fun_mk (st := s_l_inner) l_l_inner c_l_inner k_l_inner, PySem.W.mg_of X G g_l_inner, fun_mk (st := s_l_same) l_l_same c_l_same k_l_same, PySem.W.mg_of X G g_l_same, fun_mk (st := s_l_whole) l_l_whole c_l_whole k_l_whole, PySem.W.mg_of X G g_l_whole, fun_mk (st := s_l_told) l_l_told c_l_told k_l_told, PySem.W.mg_of X G g_l_told, fun_mk (st := s_l_told_all) l_l_told_all c_l_told_all k_l_told_all, PySem.W.mg_of X G g_l_told_all, fun_mk (st := s_law) l_law c_law k_law, PySem.W.mg_of X G g_law, PySem.W.mg_of X G g_Part, h_kp_Part, ⟨pg_Part, hd_Part, po_Part, sa_Part⟩, ⟨mk_Part, in_Part, if_Part, h_kp_Part⟩, ⟨ma_Part_plus, mf_Part_plus, k_Part_plus⟩, ⟨ma_Part_times, mf_Part_times, k_Part_times⟩, ⟨ma_Part_sign, mf_Part_sign, k_Part_sign⟩, ⟨ma_Part_eq, mf_Part_eq, k_Part_eq⟩, h_na_Part_top, h_na_Part_low, h_mro_Part, h_cc_Part, h_ne_Part, Own.kit_self, h_nf_Part_Part, PySem.W.mg_of X G g_Purse, h_kp_Purse, ⟨pg_Purse, hd_Purse, po_Purse, sa_Purse⟩, ⟨mk_Purse, in_Purse, if_Purse, h_kp_Purse⟩, ⟨ma_Purse_at, mf_Purse_at, k_Purse_at⟩, ⟨ma_Purse_coins, mf_Purse_coins, k_Purse_coins⟩, ⟨ma_Purse_plus, mf_Purse_plus, k_Purse_plus⟩, ⟨ma_Purse_minus, mf_Purse_minus, k_Purse_minus⟩, ⟨ma_Purse_times, mf_Purse_times, k_Purse_times⟩, ⟨ma_Purse_rows, mf_Purse_rows, k_Purse_rows⟩, ⟨ma_Purse_eq, mf_Purse_eq, k_Purse_eq⟩, h_na_Purse__held, h_mro_Purse, h_cc_Purse, Own.kit_self, h_nf_Purse_Purse, h_cget, h_ctk, ⟨_, _, _, lE_t_rows, rfl, rfl, zE_t_rows, vE_t_rows⟩, PySem.W.mg_none_of X G z_abs, PySem.W.mg_none_of X G z_all, PySem.W.mg_none_of X G z_bool, PySem.W.mg_none_of X G z_dict, PySem.W.mg_none_of X G z_int, PySem.W.mg_none_of X G z_isinstance, PySem.W.mg_none_of X G z_len, PySem.W.mg_none_of X G z_list, PySem.W.mg_none_of X G z_min, PySem.W.mg_none_of X G z_range, PySem.W.mg_none_of X G z_repr, PySem.W.mg_none_of X G z_sorted, PySem.W.mg_none_of X G z_str, PySem.W.mg_none_of X G z_tuple, PySem.W.mg_of X G b_gcd⟩
  exact ⟨_, fun s v => .of_eq rfl, fun base _ _ => ok_law T⟩
theorem walk {l : PySem.W.OpenLaw} {q : Program} {loose : List Str} {XP : (Str → Option Value) → Heap → Prop} {YP : World → Heap → Prop} {d : DefRec} {K : Params → PySem.W.Frag} (hn : l.most = some 63) (hdf : d.params.defaults = [])
    (hY : ∀ (w : World) (h : Heap), YP w h → (K w.params).In h)
    (F : ∀ (w : World) (mg : Str → Option Value) (fa : Addr) (h : Heap), (K w.params).In h → h.Ns mainGlobals mg → mg d.name = some (.ref fa) →
      ∃ fd : FuncData, (∀ (s : Shared) (u : Value), BindsTo s fd ⟨[u], []⟩ [("_law_script", u)]) ∧ ∀ base : Heap, (K w.params).In base → base.Ns mainGlobals mg → FnG l.prog w (K w.params) mg base CX0 9 fa fd ["_law_script"] (spLaw (K w.params))) :
    PySem.W.WalkO q loose XP YP l.row.toRowW d [] (fun f vs => PySem.call f vs) :=
  Own.walk_ofG (n := 63) (k := 9) (x := "_law_script") (CX := fun _ => CX0) (sp := fun w => spLaw (K w.params)) hn (by decide) hdf ⟨rfl, by decide, by decide⟩ hY F (fun _ _ a ns hl _ hS => ⟨a, ns, rfl, hS, hl, fun _ => rfl⟩) fun _ _ _ _ _ z => z
end My
open PySem PySem.W PyProof.Rows
set_option maxRecDepth 100000 in
set_option maxHeartbeats 0 in
theorem PySem.Challenge.cw_oneroof_k15_whole_fresh_gains_close_holds : PySem.Challenge.rw_oneroof_k15_whole_fresh_gains_close.Holds := by
  w_on; o_law; k_head; (case hw => w_witness2)
  k_fill
  refine My.walk (l := PySem.Challenge.rw_oneroof_k15_whole_fresh_gains_close) rfl rfl (fun w h Y => PySem.W.kIn_of Y) ?F
  case F =>
    intro w mg fa h KX G hmg
    refine' My.all_mk KX G hmg ?g_inner ?g_cut ?g_cost ?g_fresh ?g_was_under ?g_first_fresh ?g_cost_by_last ?g_l_cell ?g_l_digits ?g_l_names ?g_l_path ?g_l_since ?g_l_frac ?g_l_plus ?g_l_add ?g_l_due ?g_l_inner ?g_l_same ?g_l_whole ?g_l_told ?g_l_told_all ?g_law ?g_Part ?in_Part ?ma_Part_plus ?ma_Part_times ?ma_Part_sign ?ma_Part_eq ?g_Purse ?in_Purse ?ma_Purse_at ?ma_Purse_coins ?ma_Purse_plus ?ma_Purse_minus ?ma_Purse_times ?ma_Purse_rows ?ma_Purse_eq ?l_Part_init ?c_Part_init ?k_Part_init ?lT_Part_init ?vT_Part_init ?l_Part_plus ?c_Part_plus ?k_Part_plus ?l_Part_times ?c_Part_times ?k_Part_times ?l_Part_sign ?c_Part_sign ?k_Part_sign ?l_Part_eq ?c_Part_eq ?k_Part_eq ?l_Purse_init ?c_Purse_init ?k_Purse_init ?lT_Purse_init ?vT_Purse_init ?l_Purse_at ?c_Purse_at ?k_Purse_at ?l_Purse_coins ?c_Purse_coins ?k_Purse_coins ?l_Purse_plus ?c_Purse_plus ?k_Purse_plus ?l_Purse_minus ?c_Purse_minus ?k_Purse_minus ?l_Purse_times ?c_Purse_times ?k_Purse_times ?l_Purse_rows ?c_Purse_rows ?k_Purse_rows ?l_Purse_eq ?c_Purse_eq ?k_Purse_eq ?l_inner ?c_inner ?k_inner ?l_cut ?c_cut ?k_cut ?l_cost ?c_cost ?k_cost ?hK_cost_since ?l_fresh ?c_fresh ?k_fresh ?l_was_under ?c_was_under ?k_was_under ?l_first_fresh ?c_first_fresh ?k_first_fresh ?l_cost_by_last ?c_cost_by_last ?k_cost_by_last ?l_l_cell ?c_l_cell ?k_l_cell ?l_l_digits ?c_l_digits ?k_l_digits ?l_l_names ?c_l_names ?k_l_names ?l_l_path ?c_l_path ?k_l_path ?l_l_since ?c_l_since ?k_l_since ?l_l_frac ?c_l_frac ?k_l_frac ?l_l_plus ?c_l_plus ?k_l_plus ?l_l_add ?c_l_add ?k_l_add ?l_l_due ?c_l_due ?k_l_due ?l_l_inner ?c_l_inner ?k_l_inner ?l_l_same ?c_l_same ?k_l_same ?l_l_whole ?c_l_whole ?k_l_whole ?l_l_told ?c_l_told ?k_l_told ?l_l_told_all ?c_l_told_all ?k_l_told_all ?l_law ?c_law ?k_law ?h_kp_Part ?pg_Part ?hd_Part ?po_Part ?sa_Part ?mk_Part ?if_Part ?mf_Part_plus ?mf_Part_times ?mf_Part_sign ?mf_Part_eq ?h_na_Part_top ?h_na_Part_low ?h_mro_Part ?h_cc_Part ?h_ne_Part ?h_nf_Part_Part ?h_kp_Purse ?pg_Purse ?hd_Purse ?po_Purse ?sa_Purse ?mk_Purse ?if_Purse ?mf_Purse_at ?mf_Purse_coins ?mf_Purse_plus ?mf_Purse_minus ?mf_Purse_times ?mf_Purse_rows ?mf_Purse_eq ?h_na_Purse__held ?h_mro_Purse ?h_cc_Purse ?h_nf_Purse_Purse ?h_cget ?h_ctk ?lE_t_rows ?vE_t_rows ?zE_t_rows ?z_abs ?z_all ?z_bool ?z_dict ?z_int ?z_isinstance ?z_len ?z_list ?z_min ?z_range ?z_repr ?z_sorted ?z_str ?z_tuple ?b_gcd
    case g_inner => k_is
    case g_cut => k_is
    case g_cost => k_is
    case g_fresh => k_is
    case g_was_under => k_is
    case g_first_fresh => k_is
    case g_cost_by_last => k_is
    case g_l_cell => k_is
    case g_l_digits => k_is
    case g_l_names => k_is
    case g_l_path => k_is
    case g_l_since => k_is
    case g_l_frac => k_is
    case g_l_plus => k_is
    case g_l_add => k_is
    case g_l_due => k_is
    case g_l_inner => k_is
    case g_l_same => k_is
    case g_l_whole => k_is
    case g_l_told => k_is
    case g_l_told_all => k_is
    case g_law => k_is
    case g_Part => k_is
    case in_Part => k_is
    case ma_Part_plus => k_is
    case ma_Part_times => k_is
    case ma_Part_sign => k_is
    case ma_Part_eq => k_is
    case g_Purse => k_is
    case in_Purse => k_is
    case ma_Purse_at => k_is
    case ma_Purse_coins => k_is
    case ma_Purse_plus => k_is
    case ma_Purse_minus => k_is
    case ma_Purse_times => k_is
    case ma_Purse_rows => k_is
    case ma_Purse_eq => k_is
    case l_Part_init => k_is
    case c_Part_init => k_is
    case k_Part_init => k_is
    case lT_Part_init => k_is
    case vT_Part_init => exact (.cons ⟨_, rfl⟩ .nil)
    case l_Part_plus => k_is
    case c_Part_plus => k_is
    case k_Part_plus => k_is
    case l_Part_times => k_is
    case c_Part_times => k_is
    case k_Part_times => k_is
    case l_Part_sign => k_is
    case c_Part_sign => k_is
    case k_Part_sign => k_is
    case l_Part_eq => k_is
    case c_Part_eq => k_is
    case k_Part_eq => k_is
    case l_Purse_init => k_is
    case c_Purse_init => k_is
    case k_Purse_init => k_is
    case lT_Purse_init => k_is
    case vT_Purse_init => exact (.cons rfl .nil)
    case l_Purse_at => k_is
    case c_Purse_at => k_is
    case k_Purse_at => k_is
    case l_Purse_coins => k_is
    case c_Purse_coins => k_is
    case k_Purse_coins => k_is
    case l_Purse_plus => k_is
    case c_Purse_plus => k_is
    case k_Purse_plus => k_is
    case l_Purse_minus => k_is
    case c_Purse_minus => k_is
    case k_Purse_minus => k_is
    case l_Purse_times => k_is
    case c_Purse_times => k_is
    case k_Purse_times => k_is
    case l_Purse_rows => k_is
    case c_Purse_rows => k_is
    case k_Purse_rows => k_is
    case l_Purse_eq => k_is
    case c_Purse_eq => k_is
    case k_Purse_eq => k_is
    case l_inner => k_is
    case c_inner => k_is
    case k_inner => k_is
    case l_cut => k_is
    case c_cut => k_is
    case k_cut => k_is
    case l_cost => k_is
    case c_cost => k_is
    case k_cost => k_is
    case hK_cost_since => k_is
    case l_fresh => k_is
    case c_fresh => k_is
    case k_fresh => k_is
    case l_was_under => k_is
    case c_was_under => k_is
    case k_was_under => k_is
    case l_first_fresh => k_is
    case c_first_fresh => k_is
    case k_first_fresh => k_is
    case l_cost_by_last => k_is
    case c_cost_by_last => k_is
    case k_cost_by_last => k_is
    case l_l_cell => k_is
    case c_l_cell => k_is
    case k_l_cell => k_is
    case l_l_digits => k_is
    case c_l_digits => k_is
    case k_l_digits => k_is
    case l_l_names => k_is
    case c_l_names => k_is
    case k_l_names => k_is
    case l_l_path => k_is
    case c_l_path => k_is
    case k_l_path => k_is
    case l_l_since => k_is
    case c_l_since => k_is
    case k_l_since => k_is
    case l_l_frac => k_is
    case c_l_frac => k_is
    case k_l_frac => k_is
    case l_l_plus => k_is
    case c_l_plus => k_is
    case k_l_plus => k_is
    case l_l_add => k_is
    case c_l_add => k_is
    case k_l_add => k_is
    case l_l_due => k_is
    case c_l_due => k_is
    case k_l_due => k_is
    case l_l_inner => k_is
    case c_l_inner => k_is
    case k_l_inner => k_is
    case l_l_same => k_is
    case c_l_same => k_is
    case k_l_same => k_is
    case l_l_whole => k_is
    case c_l_whole => k_is
    case k_l_whole => k_is
    case l_l_told => k_is
    case c_l_told => k_is
    case k_l_told => k_is
    case l_l_told_all => k_is
    case c_l_told_all => k_is
    case k_l_told_all => k_is
    case l_law => k_is
    case c_law => k_is
    case k_law => k_is
    case h_kp_Part => k_is
    case pg_Part => k_is
    case hd_Part => k_is
    case po_Part => k_is
    case sa_Part => k_is
    case mk_Part => k_is
    case if_Part => k_is
    case mf_Part_plus => k_is
    case mf_Part_times => k_is
    case mf_Part_sign => k_is
    case mf_Part_eq => k_is
    case h_na_Part_top => k_is
    case h_na_Part_low => k_is
    case h_mro_Part => k_is
    case h_cc_Part => k_is
    case h_ne_Part => k_is
    case h_nf_Part_Part => k_is
    case h_kp_Purse => k_is
    case pg_Purse => k_is
    case hd_Purse => k_is
    case po_Purse => k_is
    case sa_Purse => k_is
    case mk_Purse => k_is
    case if_Purse => k_is
    case mf_Purse_at => k_is
    case mf_Purse_coins => k_is
    case mf_Purse_plus => k_is
    case mf_Purse_minus => k_is
    case mf_Purse_times => k_is
    case mf_Purse_rows => k_is
    case mf_Purse_eq => k_is
    case h_na_Purse__held => k_is
    case h_mro_Purse => k_is
    case h_cc_Purse => k_is
    case h_nf_Purse_Purse => k_is
    case h_cget => k_is
    case h_ctk => k_is
    case lE_t_rows => k_is
    case vE_t_rows => exact .nil
    case zE_t_rows => exact Nat.le_of_ble_eq_true rfl
    case z_abs => k_is
    case z_all => k_is
    case z_bool => k_is
    case z_dict => k_is
    case z_int => k_is
    case z_isinstance => k_is
    case z_len => k_is
    case z_list => k_is
    case z_min => k_is
    case z_range => k_is
    case z_repr => k_is
    case z_sorted => k_is
    case z_str => k_is
    case z_tuple => k_is
    case b_gcd => k_is
