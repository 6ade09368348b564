import PyProof.Rows.All
import Wide.All
import OpenK.AllK
import Wide.FinOn
import HandS.ForMost
import HandS.Exc
import HandS.OwnEq
import HandS.Gcd
import HandS.RaiseMore
import HandS.IsInst
import HandS.NoneIn
import HandS.FStr
import HandS.Wide
import HandS.Defaults
import HandS.DictComp
import HandS.ListItems
import OpenK.KOps
import PyProof.Rows.RegStrFacts
import PyProof.Rows.ReprOcc
import HandS.Walk
import HandS.Steps
import HandS.Dict
import HandS.WordsDict
import PyProof.Rows.StrMeet
import HandS.MakeKwOnly
import HandS.TupAny
import HandS.Style
import HandS.DictEq
import HandS.Iter
import KE.KFmtOwn
import PyProof.NeKinds
import PySem.Challenge.RW_oneroof_k03_purses_made
set_option Elab.async false
set_option maxRecDepth 100000
set_option maxHeartbeats 4000000
set_option linter.all false
namespace Own
open PySem PySem.Spec PyProof.Rows L2
section
variable {X : Cx}

/-- what a callee's run gives, told at any room below X -/
theorem run_sub {CX : CXT} {k : Nat} {f : Addr} {fd : FuncData} {ps : List Str} {sp : Sp} {E : XK} {A : Around} {pins : List (Addr × Obj)} {σ : L2.St} {H : Hp} {s : Shared} {R : Value → Shared → Prop} {us : List Value} {vs : List V} {Q : VK}
    (F : FnOk X.prog X.w X.K X.mg X.base CX k f fd ps sp) (sb : Sub X k A) (hb : Binds X.K fd ps []) (hx : Passes CX X E) (I : Inv X pins σ H s) (r : Vals vs us) (h : sp vs H Q E)
    (hR : ∀ v u H' s', Inv X pins σ H' s' → RelV v u → Q v H' → R u s') : wpAny (model X.prog X.w) A (call (.ref f) us) R X.xe s := by
  have e := I.env0
  have e0 : Env0 X.prog X.w X.K X.mg X.base A X.stack s H := ⟨sb.fr.trans e.frames, e.mod, e.bs, e.bsz, e.funs, e.frf, e.hok, e.bare⟩
  have hl : (us ++ []).length = ps.length := by rw [List.append_nil, ← r.length]; exact F.len _ _ _ _ h
  have hb2 := hb s us I.kIn hl
  rw [List.append_nil] at hb2
  refine wpAny_call (codeAny_mono (F.run A X.stack s H ⟨us, []⟩ us vs Q E sb.room e0 hb2 r h) fun z s' hq => ?_)
  cases z with
  | error e => exact hx pins σ H s e s' I hq
  | ok fl =>
    cases fl with
    | ret u =>
      obtain ⟨v, H', I', rv, q⟩ := I.after hq
      exact hR v u H' s' I' rv q
    | next => exact hq.elim
    | brk => exact hq.elim
    | cont => exact hq.elim

/-- repr(o): the class's own __repr__ -/
def rReprI (C : Addr) (sp : Sp) (E : XK) : List V → Hp → VK → Prop := fun vs H Q =>
  ∃ a dx fs, vs = [V.ref a] ∧ H a = some (.ins C dx fs) ∧ sp [.ref a] H (fun v H' => (∃ y, v = .str y) ∧ Q v H') E
theorem call_repr_own {CX : CXT} {k : Nat} {C f : Addr} {fd : FuncData} {ps : List Str} {sp : Sp} {E : XK} (F : FnOk X.prog X.w X.K X.mg X.base CX k f fd ps sp) (hr : Room (k + 1) X.A) (hb : Binds X.K fd ps []) (hx : Passes CX X E)
    (hs : PySem.W.findIn X.K (.ref C) "__repr__" = some (some (.ref f))) (hf : PySem.W.isFn X.K (.ref f) = true) : CallR X (.builtin "repr") (rReprI C sp E) := by
  intro pins s σ H xs us Q I r h
  obtain ⟨a, dx, fs, rfl, ha, h⟩ := h
  obtain ⟨u, rfl, ru⟩ := vals1 r
  obtain rfl : u = Value.ref a := ru
  obtain ⟨mA, J, _⟩ := ins_get I.hok ha
  obtain ⟨od, J, _⟩ := J.look
  obtain ⟨m, hF⟩ := I.fr
  refine PySem.W.repr_K hr.in1.units0 hF I.ok.mod.kin J hs hf ?_
  refine run_sub (A := X.A.in1) (vs := [V.ref a]) F ⟨hr.in1, rfl⟩ hb hx I (.cons (show RelV (V.ref a) (Value.ref a) from rfl) .nil) h fun v u H' s' I' rv q => ?_
  obtain ⟨⟨y, rfl⟩, q⟩ := q
  obtain ⟨t, rfl⟩ := rv
  exact ⟨.str y, H', I', ⟨t, rfl⟩, q⟩

/-- repr of an int, of a text -/
def rReprF : List V → Hp → VK → Prop := fun vs H Q =>
  (∃ i, vs = [V.int i] ∧ i.natAbs.log2 < 1920 ∧ Q (.str (toString i)) H) ∨ ∃ y, vs = [V.str y] ∧ (reprText y).length ≤ sizeLine ∧ Q (.str (reprText y)) H
theorem call_repr_flat : CallR X (.builtin "repr") rReprF := by
  intro pins s σ H xs us Q I r h
  rcases h with ⟨i, rfl, hz, q⟩ | ⟨y, rfl, hz, q⟩
  · exact SkE.call_repr_int pins s σ H _ us Q I r ⟨i, rfl, hz, q⟩
  · obtain ⟨u, rfl, t, rfl⟩ := vals1 r
    exact PySem.P.repr_of_str ⟨.str _, H, I.tok _, ⟨_, rfl⟩, q⟩ hz


theorem typeOf_at {M : Model} {h : Heap} {a : Addr} {o : Obj} (e : h.get? a = some o) : PySem.W.Looks M h (typeOf (.ref a)) o.cls := (PySem.W.Looks.ld e).andThen .now
/-- what the type of such a value is -/
theorem typeOf_ty {pins : List (Addr × Obj)} {σ : L2.St} {H : Hp} {s : Shared} {M : Model} {x : V} {u t : Value} (I : Inv X pins σ H s) (rx : RelV x u) (ty : TyX X.K H x t) : PySem.W.Looks M s.heap (typeOf u) t := by
  cases ty with
  | base b =>
    cases b with
    | non => cases (show u = Value.none from rx); exact .of_pure rfl
    | bl y => cases (show u = Value.bool y from rx); exact .of_pure rfl
    | int i => obtain ⟨t, q⟩ := (show ∃ t, u = Value.int i t from rx); cases q; exact .of_pure rfl
    | str y => obtain ⟨t, q⟩ := (show ∃ t, u = Value.str y t from rx); cases q; exact .of_pure rfl
    | flt y => obtain ⟨t, q⟩ := (show ∃ t, u = Value.float y t from rx); cases q; exact .of_pure rfl
    | @lst a xs ea =>
      cases (show u = Value.ref a from rx)
      obtain ⟨_, _, n, _, h1⟩ := (show ObjOk X.prog X.w H s.heap a (.lst xs) from I.hok a _ ea)
      exact typeOf_at h1
    | @frz a ob xs ea =>
      cases (show u = Value.ref a from rx)
      obtain ⟨_, _, _, n, _, h1⟩ := (show ObjOk X.prog X.w H s.heap a (.frz ob (.lst xs)) from I.hok a _ ea)
      exact typeOf_at h1
    | @tup a xs ea =>
      cases (show u = Value.ref a from rx)
      obtain ⟨_, _, _, o, h1, h2, _⟩ := (show ObjOk X.prog X.w H s.heap a (.tup xs) from I.hok a _ ea)
      exact h2 ▸ typeOf_at h1
    | @dK a kvs ea =>
      cases (show u = Value.ref a from rx)
      obtain ⟨_, _, vs, _, o, es, ep, h1, h2, _⟩ := (show ObjOk X.prog X.w H s.heap a (.dK kvs) from I.hok a _ ea)
      exact h2.1 ▸ typeOf_at h1
    | @dT a kvs ea =>
      cases (show u = Value.ref a from rx)
      obtain ⟨_, _, xs, _, o, es, ep, h1, h2, _⟩ := (show ObjOk X.prog X.w H s.heap a (.dT kvs) from I.hok a _ ea)
      exact h2.1 ▸ typeOf_at h1
    | @ins a C dx fs ea cl ha hn htk hm =>
      cases (show u = Value.ref a from rx)
      obtain ⟨mA, O, _⟩ := ins_get I.hok ea
      obtain ⟨od, J, _⟩ := O.look
      exact J.type
  | byt y => obtain ⟨t, q⟩ := (show ∃ t, u = Value.bytes y t from rx); cases q; exact .of_pure rfl
  | @set a S n ea =>
    cases (show u = Value.ref a from rx)
    obtain ⟨o, _, _, _, e, ex, _⟩ := I.hok a _ ea
    exact ex.1 ▸ typeOf_at e
  | @kList a o e c =>
    cases (show u = Value.ref a from rx)
    exact c ▸ typeOf_at (I.kIn a o e)
  | @kTuple a o e c =>
    cases (show u = Value.ref a from rx)
    exact c ▸ typeOf_at (I.kIn a o e)
  | @kDict a o e c =>
    cases (show u = Value.ref a from rx)
    exact c ▸ typeOf_at (I.kIn a o e)
  | @fTuple a ob xs ea =>
    cases (show u = Value.ref a from rx)
    obtain ⟨_, _, _, _, o, h1, h2, _⟩ := (show ObjOk X.prog X.w H s.heap a (.frz ob (.tup xs)) from I.hok a _ ea)
    exact h2 ▸ typeOf_at h1
  | @fDict a ob kvs ea =>
    cases (show u = Value.ref a from rx)
    obtain ⟨_, _, _, vs, _, o, es, ep, h1, h2, _⟩ := (show ObjOk X.prog X.w H s.heap a (.frz ob (.dK kvs)) from I.hok a _ ea)
    exact h2.1 ▸ typeOf_at h1

/-- a == b by the left one's own __eq__: b of a type that is no subclass of a's class -/
def rEqI (K : PySem.W.Frag) (C : Addr) (sp : Sp) (E : XK) (g : Bool → V) : R2 := fun x y H Q =>
  ∃ a dx fs t, x = V.ref a ∧ H a = some (.ins C dx fs) ∧ TyX K H y t ∧ PySem.W.notFirst K C t = true ∧ sp [.ref a, y] H (fun v H' => ∃ b, v = .bl b ∧ Q (g b) H') E
theorem op_eq_own {CX : CXT} {k : Nat} {C f : Addr} {fd : FuncData} {ps : List Str} {sp : Sp} {E : XK} (F : FnOk X.prog X.w X.K X.mg X.base CX k f fd ps sp) (hr : Room k X.A) (hb : Binds X.K fd ps []) (hx : Passes CX X E)
    (hs : PySem.W.findIn X.K (.ref C) "__eq__" = some (some (.ref f))) (hf : PySem.W.isFn X.K (.ref f) = true) : OpR X (compareOp .Eq) (rEqI X.K C sp E V.bl) := by
  intro pins s σ H x y v u Q I rx ry h
  obtain ⟨a, dx, fs, t, rfl, ha, ty, nf, h⟩ := h
  obtain rfl : v = Value.ref a := rx
  obtain ⟨mA, J, _⟩ := ins_get I.hok ha
  obtain ⟨od, J, _⟩ := J.look
  obtain ⟨m, hF⟩ := I.fr
  show wpAny _ _ (richCompare .Eq (.ref a) u) _ _ _
  refine PySem.W.cmp_K (op := .Eq) hr.units0 hF I.ok.mod.kin J (typeOf_ty I ry ty) nf hs hf ?_
  refine run_sub (vs := [V.ref a, y]) F ⟨hr, rfl⟩ hb hx I (.cons (show RelV (V.ref a) (Value.ref a) from rfl) (.cons ry .nil)) h fun v u H' s' I' rv q => ?_
  obtain ⟨b, rfl, q⟩ := q
  obtain rfl : u = Value.bool b := rv
  exact ⟨.bl b, H', I', rfl, q⟩

/-- a slot that the class has from object: found, bound, called -/
theorem ifBound_B {M : Model} {A : Around} {E : Value → Shared → Prop} {s : Shared} {K : PySem.W.Frag} {x C : Addr} {ox : Obj} {od : Option Obj} {name : Str} {id : String} {args : List Value} {Q : Option Value → Shared → Prop} (X : K.In s.heap) (I : PySem.W.InstAt s.heap x ox C od)
    (hs : PySem.W.findIn K (.ref C) name = some (some (.builtin id))) (hb : ∀ self, bindSpecial (.builtin id) self = pure (.builtin id, [self]))
    (h : wpAny M A (call (.builtin id) (.ref x :: args)) (fun v => Q (some v)) E s) : wpAny M A (callSpecialIfBound? (.ref x) name args) Q E s := by
  have fin : wpAny M A (call (.builtin id) ([.ref x] ++ args) >>= fun v => pure (some v)) Q E s := wpAny_bind (wpAny_mono h (fun v s' h' => wpAny_pure h') fun _ _ h' => h')
  simp only [callSpecialIfBound?, bindSpecialIfBound?]
  refine wpAny_holding (wpAny_bind (wpAny_bind (wpAny_bind (I.type.here ((PySem.W.looks_findIn X hs).here ?_)))))
  refine wpAny_bind (wpAny_askSetting (wpAny_ite ?_))
  split
  · exact wpAny_bind ((PySem.W.Looks.of_pure (hb _)).here (wpAny_pure (by exact fin)))
  · exact wpAny_tryCatch (wpAny_bind ((PySem.W.Looks.of_pure (hb _)).here (wpAny_pure (by exact fin))))
/-- a != b where the class has __eq__ alone: object's __ne__ asks it -/
theorem ne_own {prog : Program} {w : World} {A : Around} {E : Value → Shared → Prop} {s : Shared} {K : PySem.W.Frag} {x C f : Addr} {ox : Obj} {od : Option Obj} {b tb : Value} {Q : Value → Shared → Prop} (hu : A.in1.units < cLine) (X : K.In s.heap) (I : PySem.W.InstAt s.heap x ox C od)
    (hb : PySem.W.Looks (model prog w) s.heap (typeOf b) tb) (hn : PySem.W.notFirst K C tb = true) (hne : PySem.W.findIn K (.ref C) "__ne__" = some (some (.builtin "object.__ne__"))) (hm : PySem.W.mroIn K C (.type "object") = some true)
    (hs : PySem.W.findIn K (.ref C) "__eq__" = some (some (.ref f))) (hf : PySem.W.isFn K (.ref f) = true)
    (h : wpAny (model prog w) A.in1 (call (.ref f) [.ref x, b]) (fun v s' => ∃ k, v = .bool k ∧ Q (.bool (!k)) s') E s) : wpAny (model prog w) A (richCompare .NotEq (.ref x) b) Q E s := by
  have hu0 : A.units < cLine := Nat.lt_of_succ_lt hu
  have body : wpAny (model prog w) A (call (.builtin "object.__ne__") [.ref x, b]) (fun v s' => ∃ k, v = .bool k ∧ Q v s') E s := by
    refine wpAny_call (codeAny_call_builtin PySem.F.slot_object_ne.plain PySem.F.entry_object_ne (PySem.W.check_slot (i := "object.__ne__") (owner := "object") (n := "__ne__") (by decide +kernel) (by decide +kernel) (I.type.andThen (PySem.W.looks_mroIn X hm)) (PySem.F.args_object_ne_2 _ _) ?_))
    unfold Builtin.«object.__ne__»
    refine wpAny_bind (m := PySem.slotArgs "__ne__" 1 _) (wpAny_pure ?_)
    refine wpAny_bind (m := cRoomFor _ _) (wpAny_cRoomFor hu ?_)
    refine wpAny_bind (m := callSpecialIfBound? (.ref x) (Str.ofString "__eq__") _) (PySem.W.ifBound_K X I hs hf (wpAny_mono h (fun v s' hv => ?_) fun _ _ e => e))
    obtain ⟨k, rfl, q⟩ := hv
    exact wpAny_bind (wpAny_truthy_bool (wpAny_pure ⟨_, rfl, q⟩))
  have one : wpAny (model prog w) A (tryCompare (.ref x) (cmpInfo .NotEq).2.1 b) (fun r s' => ∃ v, r = some v ∧ Q v s') E s := by
    unfold tryCompare
    refine wpAny_bind (ifBound_B X I hne PySem.F.slot_object_ne.bind (wpAny_mono body (fun v s' hv => ?_) fun _ _ e => e))
    obtain ⟨k, rfl, q⟩ := hv
    exact wpAny_pure ⟨_, rfl, q⟩
  have fin : ∀ {r : Option Value} {s' : Shared}, (∃ v, r = some v ∧ Q v s') → ∃ v, r = some v ∧ Q v s' := fun z => z
  unfold richCompare
  simp only [PySem.oneThing_ref]
  refine wpAny_holding (wpAny_bind (wpAny_cRoomFor hu0 ?_))
  refine wpAny_bind (I.type.here (wpAny_bind (hb.here ?_)))
  split
  · rename_i q
    have e : PySem.W.subIn K tb (.ref C) = some false := by
      rcases Bool.or_eq_true_iff.mp hn with e | e
      · rw [beq_iff_eq.mp e] at q; simp at q
      · exact beq_iff_eq.mp e
    refine wpAny_bind ((PySem.W.looks_subIn X e).here ?_)
    simp only [Bool.false_eq_true, if_false]
    refine wpAny_bind (wpAny_mono one (fun r s' z => ?_) fun _ _ e => e)
    obtain ⟨v, rfl, hq⟩ := z
    exact wpAny_pure hq
  · refine wpAny_bind (wpAny_pure ?_)
    simp only [Bool.false_eq_true, if_false]
    refine wpAny_bind (wpAny_mono one (fun r s' z => ?_) fun _ _ e => e)
    obtain ⟨v, rfl, hq⟩ := z
    exact wpAny_pure hq
theorem op_ne_own {CX : CXT} {k : Nat} {C f : Addr} {fd : FuncData} {ps : List Str} {sp : Sp} {E : XK} (F : FnOk X.prog X.w X.K X.mg X.base CX k f fd ps sp) (hr : Room (k + 1) X.A) (hb : Binds X.K fd ps []) (hx : Passes CX X E)
    (hs : PySem.W.findIn X.K (.ref C) "__eq__" = some (some (.ref f))) (hf : PySem.W.isFn X.K (.ref f) = true)
    (hne : PySem.W.findIn X.K (.ref C) "__ne__" = some (some (.builtin "object.__ne__"))) (hm : PySem.W.mroIn X.K C (.type "object") = some true) : OpR X (compareOp .NotEq) (rEqI X.K C sp E fun b => V.bl (!b)) := by
  intro pins s σ H x y v u Q I rx ry h
  obtain ⟨a, dx, fs, t, rfl, ha, ty, nf, h⟩ := h
  obtain rfl : v = Value.ref a := rx
  obtain ⟨mA, J, _⟩ := ins_get I.hok ha
  obtain ⟨od, J, _⟩ := J.look
  show wpAny _ _ (richCompare .NotEq (.ref a) u) _ _ _
  refine ne_own hr.in1.units0 I.kIn J (typeOf_ty I ry ty) nf hne hm hs hf ?_
  refine run_sub (A := X.A.in1) (vs := [V.ref a, y]) F ⟨hr.in1, rfl⟩ hb hx I (.cons (show RelV (V.ref a) (Value.ref a) from rfl) (.cons ry .nil)) h fun v u H' s' I' rv q => ?_
  obtain ⟨b, rfl, q⟩ := q
  obtain rfl : u = Value.bool b := rv
  exact ⟨b, rfl, .bl (!b), H', I', rfl, q⟩

/-- // by any number that is not nought, both below 2 ^ 9000 -/
def CDivA (_ j : Int) : Prop := j ≠ 0 ∧ j.natAbs.log2 < 9000
theorem op_fdivA : OpR X (binaryOp .FloorDiv) (rI CDivA fun i j => .int (i.fdiv j)) := opI fun i j _ _ _ _ _ hc q =>
  floordiv_int hc.1 q (.inl (PyProof.noPylong_of_log2 hc.2))
end
end Own

set_option Elab.async false
set_option maxRecDepth 100000
set_option maxHeartbeats 4000000
set_option linter.all false
namespace Own
open PySem PySem.Spec PyProof.Rows L2
/-! places of lists -/
theorem atI_lt {α : Type} {xs : List α} {k : Int} (h0 : 0 ≤ k) (h1 : k < xs.length) : ∃ v, xs[k.toNat]? = some v ∧ atI xs k = some v := by
  have hk : k.toNat < xs.length := by omega
  refine ⟨xs[k.toNat], List.getElem?_eq_getElem hk, ?_⟩
  unfold atI ixN
  rw [if_pos h0, if_pos h1]
  exact List.getElem?_eq_getElem hk
theorem atI_map {α β : Type} {f : α → β} {xs : List α} {k : Int} {v : α} (h : atI xs k = some v) : atI (xs.map f) k = some (f v) := by
  unfold atI at h ⊢
  rw [List.length_map]
  cases e : ixN xs.length k with
  | none => rw [e] at h; cases h
  | some j =>
    rw [e] at h
    have h : xs[j]? = some v := h
    show (xs.map f)[j]? = some (f v)
    rw [List.getElem?_map, h]
    rfl
theorem atI_nat {α : Type} {xs : List α} {j : Nat} {v : α} (h : xs[j]? = some v) : atI xs (j : Int) = some v := by
  have hj := (List.getElem?_eq_some_iff.mp h).1
  obtain ⟨w, h1, h2⟩ := atI_lt (xs := xs) (k := (j : Int)) (by omega) (by omega)
  rw [Int.toNat_natCast, h] at h1
  rw [h2, ← h1]
theorem pick4 {P : Int → Prop} {a b c d k : Int} (h0 : 0 ≤ k) (h1 : k < 4) (ha : P a) (hb : P b) (hc : P c) (hd : P d) : ∃ v, atI [V.int a, .int b, .int c, .int d] k = some (.int v) ∧ P v := by
  rcases (by omega : k = 0 ∨ k = 1 ∨ k = 2 ∨ k = 3) with rfl | rfl | rfl | rfl
  · exact ⟨a, rfl, ha⟩
  · exact ⟨b, rfl, hb⟩
  · exact ⟨c, rfl, hc⟩
  · exact ⟨d, rfl, hd⟩
/-- the two places of a pair -/
theorem atI_0 {α : Type} {x : α} {xs : List α} : atI (x :: xs) 0 = some x := Own.atI_nat (j := 0) rfl
theorem atI_1 {α : Type} {x y : α} {xs : List α} : atI (x :: y :: xs) 1 = some y := Own.atI_nat (j := 1) rfl
theorem drawn5 {ds : List Int} {a b c d e : Int} (h : Paired (fun d z => 0 ≤ d ∧ d < z) ds [a, b, c, d, e]) : ∃ v w x y z : Int, ds = [v, w, x, y, z] ∧ (0 ≤ v ∧ v < a) ∧ (0 ≤ w ∧ w < b) ∧ (0 ≤ x ∧ x < c) ∧ (0 ≤ y ∧ y < d) ∧ (0 ≤ z ∧ z < e) := by
  cases h with
  | cons h1 h => cases h with
    | cons h2 h => cases h with
      | cons h3 h => cases h with
        | cons h4 h => cases h with
          | cons h5 h => cases h with
            | nil => exact ⟨_, _, _, _, _, rfl, h1, h2, h3, h4, h5⟩
theorem drawn4 {ds : List Int} {a b c d : Int} (h : Paired (fun d z => 0 ≤ d ∧ d < z) ds [a, b, c, d]) : ∃ v w x y : Int, ds = [v, w, x, y] ∧ (0 ≤ v ∧ v < a) ∧ (0 ≤ w ∧ w < b) ∧ (0 ≤ x ∧ x < c) ∧ (0 ≤ y ∧ y < d) := by
  cases h with
  | cons h1 h => cases h with
    | cons h2 h => cases h with
      | cons h3 h => cases h with
        | cons h4 h => cases h with
          | nil => exact ⟨_, _, _, _, rfl, h1, h2, h3, h4⟩
theorem drawn3 {ds : List Int} {a b c : Int} (h : Paired (fun d z => 0 ≤ d ∧ d < z) ds [a, b, c]) : ∃ v w x : Int, ds = [v, w, x] ∧ (0 ≤ v ∧ v < a) ∧ (0 ≤ w ∧ w < b) ∧ (0 ≤ x ∧ x < c) := by
  cases h with
  | cons h1 h => cases h with
    | cons h2 h => cases h with
      | cons h3 h => cases h with
        | nil => exact ⟨_, _, _, rfl, h1, h2, h3⟩
/-! products -/
theorem mulWn {i j : Int} (n m : Nat) (hi : i.natAbs < 2 ^ n) (hj : j.natAbs < 2 ^ m) (h0 : 0 < n) (h1 : 0 < m) (h : n + m ≤ 1000000) : CMulW i j := wide_mul hi hj h0 h1 h
theorem mulW64 {i j : Int} (hi : i.natAbs < 2 ^ 64) (hj : j.natAbs < 2 ^ 64) : CMulW i j := wide_mul hi hj (by decide) (by decide) (by decide)
theorem mul_lt {i j : Int} (n m : Nat) (hi : i.natAbs < 2 ^ n) (hj : j.natAbs < 2 ^ m) : (i * j).natAbs < 2 ^ (n + m) := wide_lt hi hj
theorem divA_of {i j : Int} (n : Nat) (h : j ≠ 0) (hj : j.natAbs < 2 ^ n) (h0 : 0 < n) (h9 : n ≤ 9000) : CDivA i j := ⟨h, Nat.lt_of_lt_of_le (PySem.Flt.log2_lt_of h0 hj) h9⟩
theorem log2_of {i : Int} (h : i.natAbs < 2 ^ 1920) : i.natAbs.log2 < 1920 := PySem.Flt.log2_lt_of (by decide) h
/-! loops -/
section
variable {K : PySem.W.Frag} {a : Addr} {xs : List V} {g : TG} {tb : TS} {D : Ends} {σ : L2.St} {H : Hp}
theorem for_listI {j : Nat} (hv : σ[j]? = some (some (.ref a))) (hq : SqL K H a xs) (Pv : Nat → L2.St → Hp → Prop) (h0 : Pv 0 σ H) (hl : ∀ i σ H, i ≤ xs.length → Pv i σ H → SqL K H a xs)
    (hs : ∀ i x σ H, xs[i]? = some x → Pv i σ H → g x σ H fun σ2 H2 => tb { D with nx := Pv (i + 1), ct := Pv (i + 1), bk := D.nx } σ2 H2) (hd : ∀ σ H, Pv xs.length σ H → D.nx σ H) : tFor (iList K (tVar j)) g tb D σ H :=
  ⟨_, hv, a, rfl, ⟨_, hq⟩, for_list Pv h0 hl hs hd⟩
theorem for_rangeI {ta : TA} {n : Int} (hta : ∀ R : List V → Hp → Prop, R [.int n] H → ta σ H R) (h1 : 0 ≤ n) (h2 : n < 2 ^ 62) (Pv : Nat → L2.St → Hp → Prop) (h0 : Pv 0 σ H)
    (hs : ∀ (i : Nat) σ H, i < n.toNat → Pv i σ H → g (.int (0 + (i : Int))) σ H fun σ2 H2 => tb { D with nx := Pv (i + 1), ct := Pv (i + 1), bk := D.nx } σ2 H2) (hd : ∀ σ H, Pv n.toNat σ H → D.nx σ H) : tFor (iRng1 ta) g tb D σ H :=
  hta _ ⟨n, rfl, by omega, h2, for_range Pv h0 hs hd⟩
end
theorem seq_i {t u : TS} {D : Ends} {σ : L2.St} {H : Hp} (h : ∀ N : L2.St → Hp → Prop, (∀ σ H, u D σ H → N σ H) → t { D with nx := N } σ H) : tSeq t u D σ H := h _ fun _ _ x => x
/-! the heap grows -/
theorem alloc {H H1 : Hp} {p : Addr} {o : HO} (hp : H p = none) (h : L2.upd H p o = H1) : Ext H H1 ∧ H1 p = some o := by
  subst h
  exact ⟨Ext.upd hp, upd_same⟩
theorem upd_ext {H H1 : Hp} {p : Addr} {o : HO} (e : Ext H H1) (hp : H p = none) : Ext H (L2.upd H1 p o) := fun b u h => by
  rw [upd_ne (ne_of_none h hp)]
  exact e b u h
theorem Ext.refl' (H : Hp) : Ext H H := fun _ _ h => h
theorem seqL {K : PySem.W.Frag} {H H1 : Hp} {a : Addr} {xs : List V} (h : SqL K H a xs) (e : Ext H H1) : SqL K H1 a xs := SqL.ext h e
theorem ofL {K : PySem.W.Frag} {H : Hp} {a : Addr} {xs : List V} (h : H a = some (.lst xs)) : SqL K H a xs := .inl (.inl h)
theorem ofT {K : PySem.W.Frag} {H : Hp} {a : Addr} {xs : List V} (h : H a = some (.tup xs)) : SqT K H a xs := .inl (.inl h)
/-! a slice of ints is ints -/
theorem cut_ints (ns : List Int) (lo hi : Option Int) : ∃ ms : List Int, cutV (ns.map V.int) lo hi = ms.map V.int ∧ ms.length ≤ ns.length := by
  refine ⟨(ns.drop (HT.sIx (ns.map V.int).length 0 lo)).take (HT.sIx (ns.map V.int).length (ns.map V.int).length hi - HT.sIx (ns.map V.int).length 0 lo), ?_, ?_⟩
  · unfold cutV
    rw [List.map_take, List.map_drop]
  · rw [List.length_take, List.length_drop]
    omega
/-! drawn numbers -/
abbrev Drawn (ds szs : List Int) : Prop := Paired (fun d z => 0 ≤ d ∧ d < z) ds szs
theorem take_snoc {α : Type} {xs : List α} {i : Nat} {x : α} (h : xs[i]? = some x) : xs.take (i + 1) = xs.take i ++ [x] := by
  rw [List.take_add_one, h]
  rfl
theorem tyLst {K : PySem.W.Frag} {H : Hp} {p : Addr} {xs : List V} (h : H p = some (.lst xs)) : tyV K "list" (.ref p) H := .inl ⟨rfl, _, .inl (.inl h)⟩
/-- a def with defaults that lets nothing out -/
theorem okD {P : Program} {w : World} {K : PySem.W.Frag} {mg : Str → Option Value} {base : Heap} {x qual : Str} {params : Arguments} {body : List Stmt} {scope : Scope} {dvs : List V} {kws : List (Str × V)} {f : Addr} {fd : FuncData} {N ps : List Str} {k : Nat} {sp : Sp}
    (F : FunD K x qual params body scope dvs kws f fd) (S : FnScope N ps scope) (len : ∀ vs H Q E, sp vs H Q E → vs.length = ps.length)
    (hbody : ∀ (cdv : Value) (A : Around) (outer : List Env) (s : Shared) (H : Hp) (vs : List V) (Q : VK) (E : XK), Room k (A.deeper (envOfC qual scope s.heap.objs.size f cdv)) → sp vs H Q E →
      ∃ t, PSs (cxOf CX0 P w K mg base N qual scope f cdv A outer s H E).nox body t ∧ t { nx := fun _ H' => Q .non H', rt := Q } (L2.start N vs) H) : FnOk P w K mg base CX0 (k + 1) f fd ps sp :=
  F.ok S len fun cdv A outer s H vs Q E hr h => by
    obtain ⟨t, h1, h2⟩ := hbody cdv A outer s H vs Q E hr h
    exact ⟨t, h1.nox, h2⟩
/-- what is never reached -/
theorem pe_never {X : Cx} {e : Expr} : PE X e (fun _ _ _ => False) := ⟨fun _ _ _ _ _ _ h => h.elim⟩
/-- an instance made: its dict, itself, its fields -/
theorem makeP {H H1 : Hp} {x dx C : Addr} {fs0 fs : List (Str × V)} (hx : H x = none) (hd : H dx = none) (h : L2.upd (L2.upd (L2.upd H dx (.own x)) x (.ins C dx fs0)) x (.ins C dx fs) = H1) : Ext H H1 ∧ H1 x = some (.ins C dx fs) := by
  subst h
  exact ⟨upd_ext (upd_ext (Ext.upd hd) hx) hx, upd_same⟩
/-! isinstance against an own class -/
theorem kit_self {K : PySem.W.Frag} {C : Addr} : PySem.W.kitOne K (.ref C) (.ref C) = some true := by
  unfold PySem.W.kitOne
  rw [if_pos (by simp)]
theorem kit_cls_of {K : PySem.W.Frag} {C : Addr} {t : Value} {b : Bool} (h1 : PySem.W.isClsIn K C = true) (h2 : PySem.W.typeIn K (.ref C) = some (.type "type")) (h3 : PySem.W.subIn K t (.ref C) = some b) : PySem.W.kitCls K t (.ref C) = some b := by
  unfold PySem.W.kitCls
  unfold PySem.W.isClsIn at h1
  show (if ((PySem.W.clsIn K C).isSome && PySem.W.typeIn K (.ref C) == some (.type "type")) = true then PySem.W.subIn K t (.ref C) else none) = some b
  rw [h1, h2, if_pos (by simp), h3]
theorem kit_own {K : PySem.W.Frag} {C D : Addr} {b : Bool} (h1 : PySem.W.isClsIn K C = true) (h2 : PySem.W.typeIn K (.ref C) = some (.type "type")) (h3 : PySem.W.subIn K (.ref D) (.ref C) = some b) (hne : ¬ D = C) : PySem.W.kitOne K (.ref D) (.ref C) = some b := by
  unfold PySem.W.kitOne
  rw [if_neg (by simpa using hne)]
  exact kit_cls_of h1 h2 h3
theorem kit_ty {K : PySem.W.Frag} {C : Addr} {n : String} {b : Bool} (h1 : PySem.W.isClsIn K C = true) (h2 : PySem.W.typeIn K (.ref C) = some (.type "type")) (h3 : PySem.W.subIn K (.type n) (.ref C) = some b) : PySem.W.kitOne K (.type n) (.ref C) = some b := by
  unfold PySem.W.kitOne
  rw [if_neg (by simp)]
  exact kit_cls_of h1 h2 h3
/-! fields -/
theorem lookup_ne {f g : Str} {v : V} {fs : List (Str × V)} (h : ¬ g = f) : (putF f v fs).lookup g = fs.lookup g := by rw [lookup_putF, if_neg h]
theorem lookup_eq {f : Str} {v : V} {fs : List (Str × V)} : (putF f v fs).lookup f = some v := by rw [lookup_putF, if_pos rfl]
/-- the fields of a Part -/
def fsP (t l : Int) : List (Str × V) := putF "low" (.int l) (putF "top" (.int t) [])
theorem fsP_top (t l : Int) : (fsP t l).lookup ("top" : Str) = some (.int t) := by
  unfold fsP
  rw [lookup_ne (by decide +kernel), lookup_eq]
theorem fsP_low (t l : Int) : (fsP t l).lookup ("low" : Str) = some (.int l) := lookup_eq
theorem fsP_no (t l : Int) {m : Str} (h1 : ¬ m = "top") (h2 : ¬ m = "low") : (fsP t l).lookup m = none := by
  unfold fsP
  rw [lookup_ne h2, lookup_ne h1]
  rfl
/-- a Part at p -/
def PartAt (C : Addr) (H : Hp) (p : Addr) (t l : Int) : Prop := ∃ dx, H p = some (.ins C dx (fsP t l))
theorem PartAt.ext {C : Addr} {H H1 : Hp} {p : Addr} {t l : Int} (h : PartAt C H p t l) (e : Ext H H1) : PartAt C H1 p t l := let ⟨dx, h⟩ := h; ⟨dx, e _ _ h⟩
def sgn (t : Int) : Int := if t = 0 then 0 else if 0 < t then 1 else -1
/-- how a fraction shows -/
def showP (t l : Int) : Str := if l = 1 then ((toString t : String) : Str) else (((toString t : String) : Str) ++ (Str.ofString "/")) ++ ((toString l : String) : Str)
/-! fractions -/
def gcdI (t l : Int) : Int := ((Nat.gcd t.natAbs l.natAbs : Nat) : Int)
def fracT (t l : Int) : Int := ((if 0 < l then 1 else -1) * t) / gcdI t l
def fracL (t l : Int) : Int := (l.natAbs : Int) / gcdI t l
theorem gcdI_pos {t l : Int} (h : l ≠ 0) : 0 < gcdI t l := by
  unfold gcdI
  have : 0 < Nat.gcd t.natAbs l.natAbs := Nat.gcd_pos_of_pos_right _ (by omega)
  omega
theorem gcdI_le {t l : Int} (h : l ≠ 0) : (gcdI t l).natAbs ≤ l.natAbs := by
  unfold gcdI
  rw [Int.natAbs_natCast]
  exact Nat.le_of_dvd (by omega) (Nat.gcd_dvd_right _ _)
theorem gcdI_dvd_t (t l : Int) : gcdI t l ∣ t := Int.ofNat_dvd_left.mpr (Nat.gcd_dvd_left _ _)
theorem gcdI_dvd_l (t l : Int) : gcdI t l ∣ l := Int.ofNat_dvd_left.mpr (Nat.gcd_dvd_right _ _)
theorem fdiv_neg_dvd {t g : Int} (h : g ∣ t) : t.fdiv (-g) = -(t / g) := by
  rw [Int.fdiv_eq_ediv_of_dvd (Int.neg_dvd.mpr h), Int.ediv_neg]
theorem frac_pos {t l : Int} (h : 0 < l) : t.fdiv (gcdI t l) = fracT t l ∧ l.fdiv (gcdI t l) = fracL t l := by
  refine ⟨?_, ?_⟩
  · unfold fracT
    rw [if_pos h, Int.one_mul, Int.fdiv_eq_ediv_of_dvd (gcdI_dvd_t t l)]
  · unfold fracL
    rw [Int.fdiv_eq_ediv_of_dvd (gcdI_dvd_l t l), Int.natAbs_of_nonneg (by omega)]
theorem frac_neg {t l : Int} (h : l < 0) : t.fdiv (-gcdI t l) = fracT t l ∧ l.fdiv (-gcdI t l) = fracL t l := by
  refine ⟨?_, ?_⟩
  · unfold fracT
    rw [if_neg (by omega), fdiv_neg_dvd (gcdI_dvd_t t l), Int.neg_mul, Int.one_mul, Int.neg_ediv_of_dvd (gcdI_dvd_t t l)]
  · unfold fracL
    rw [fdiv_neg_dvd (gcdI_dvd_l t l), ← Int.neg_ediv_of_dvd (gcdI_dvd_l t l)]
    congr 1
    omega
theorem gcdI_scale {k : Int} (hk : 0 < k) (t l : Int) : gcdI (t * k) (l * k) = gcdI t l * k := by
  unfold gcdI
  rw [Int.natAbs_mul, Int.natAbs_mul, Nat.gcd_mul_right, Int.natCast_mul, Int.natAbs_of_nonneg (by omega)]
theorem frac_scale {k : Int} (hk : 0 < k) (t l : Int) : fracT (t * k) (l * k) = fracT t l ∧ fracL (t * k) (l * k) = fracL t l := by
  have hs : (0 < l * k) ↔ (0 < l) := by
    constructor
    · intro h
      rcases Int.lt_trichotomy l 0 with h1 | h1 | h1
      · have := Int.mul_neg_of_neg_of_pos h1 hk
        omega
      · subst h1; omega
      · exact h1
    · exact fun h => Int.mul_pos h hk
  refine ⟨?_, ?_⟩
  · unfold fracT
    rw [gcdI_scale hk, ← Int.mul_assoc]
    have e : (if 0 < l * k then (1 : Int) else -1) = if 0 < l then 1 else -1 := by
      by_cases h : 0 < l
      · rw [if_pos h, if_pos (hs.mpr h)]
      · rw [if_neg h, if_neg (fun z => h (hs.mp z))]
    rw [e]
    exact Int.mul_ediv_mul_of_pos_left _ _ hk
  · unfold fracL
    rw [gcdI_scale hk, Int.natAbs_mul, Int.natCast_mul, Int.natAbs_of_nonneg (a := k) (by omega)]
    exact Int.mul_ediv_mul_of_pos_left _ _ hk
theorem fracL_pos {t l : Int} (h : l ≠ 0) : 0 < fracL t l := by
  unfold fracL
  have hd : gcdI t l ∣ (l.natAbs : Int) := Int.ofNat_dvd_left.mpr (by rw [Int.natAbs_natCast]; exact Nat.gcd_dvd_right _ _)
  obtain ⟨c, hc⟩ := hd
  have hg := gcdI_pos (t := t) h
  rw [hc, Int.mul_ediv_cancel_left _ (by omega)]
  have h2 : 0 < c * gcdI t l := by rw [Int.mul_comm, ← hc]; omega
  exact Int.pos_of_mul_pos_left h2 hg
/-- a fraction by its two quotients: t = g c, l = g d -/
theorem frac_split {t l : Int} (h : l ≠ 0) : ∃ g c d : Int, 0 < g ∧ t = g * c ∧ l = g * d ∧ ((0 < l ∧ fracT t l = c ∧ fracL t l = d) ∨ (l < 0 ∧ fracT t l = -c ∧ fracL t l = -d)) := by
  have hg := gcdI_pos (t := t) h
  obtain ⟨c, hc⟩ := gcdI_dvd_t t l
  obtain ⟨d, hd⟩ := gcdI_dvd_l t l
  have e1 : t / gcdI t l = c := by
    conv => lhs; lhs; rw [hc]
    exact Int.mul_ediv_cancel_left _ (by omega)
  have e2 : l / gcdI t l = d := by
    conv => lhs; lhs; rw [hd]
    exact Int.mul_ediv_cancel_left _ (by omega)
  refine ⟨gcdI t l, c, d, hg, hc, hd, ?_⟩
  rcases Int.lt_trichotomy l 0 with h1 | h1 | h1
  · refine .inr ⟨h1, ?_, ?_⟩
    · rw [← (frac_neg h1).1, fdiv_neg_dvd (gcdI_dvd_t t l), e1]
    · rw [← (frac_neg h1).2, fdiv_neg_dvd (gcdI_dvd_l t l), e2]
  · exact absurd h1 h
  · refine .inl ⟨h1, ?_, ?_⟩
    · rw [← (frac_pos h1).1, Int.fdiv_eq_ediv_of_dvd (gcdI_dvd_t t l), e1]
    · rw [← (frac_pos h1).2, Int.fdiv_eq_ediv_of_dvd (gcdI_dvd_l t l), e2]
theorem frac_cross {t l : Int} (h : l ≠ 0) : fracT t l * l = t * fracL t l := by
  obtain ⟨g, c, d, _, h1, h2, h3⟩ := frac_split (t := t) h
  rcases h3 with ⟨_, e1, e2⟩ | ⟨_, e1, e2⟩
  · rw [e1, e2]
    conv => lhs; rw [h2]
    conv => rhs; rw [h1]
    rw [Int.mul_left_comm, Int.mul_assoc]
  · rw [e1, e2]
    conv => lhs; rw [h2]
    conv => rhs; rw [h1]
    rw [Int.mul_left_comm, Int.neg_mul, Int.mul_neg, Int.mul_neg, Int.mul_assoc]
theorem fracT_le {t l : Int} (h : l ≠ 0) : (fracT t l).natAbs ≤ t.natAbs := by
  obtain ⟨g, c, d, hg, h1, h2, h3⟩ := frac_split (t := t) h
  have e : (fracT t l).natAbs = c.natAbs := by
    rcases h3 with ⟨_, e1, _⟩ | ⟨_, e1, _⟩
    · rw [e1]
    · rw [e1, Int.natAbs_neg]
  have e2 : t.natAbs = g.natAbs * c.natAbs := by
    conv => lhs; rw [h1]
    exact Int.natAbs_mul _ _
  rw [e, e2]
  exact Nat.le_mul_of_pos_left _ (by omega)
theorem fracL_le {t l : Int} (h : l ≠ 0) : (fracL t l).natAbs ≤ l.natAbs := by
  obtain ⟨g, c, d, hg, h1, h2, h3⟩ := frac_split (t := t) h
  have e : (fracL t l).natAbs = d.natAbs := by
    rcases h3 with ⟨_, _, e1⟩ | ⟨_, _, e1⟩
    · rw [e1]
    · rw [e1, Int.natAbs_neg]
  have e2 : l.natAbs = g.natAbs * d.natAbs := by
    conv => lhs; rw [h2]
    exact Int.natAbs_mul _ _
  rw [e, e2]
  exact Nat.le_mul_of_pos_left _ (by omega)
theorem fracT_zero {t l : Int} (h : l ≠ 0) : fracT t l = 0 ↔ t = 0 := by
  have hc := frac_cross (t := t) h
  have hL := fracL_pos (t := t) h
  constructor
  · intro z
    rw [z, Int.zero_mul] at hc
    rcases Int.mul_eq_zero.mp hc.symm with z | z
    · exact z
    · omega
  · intro z
    rw [z, Int.zero_mul] at hc
    rcases Int.mul_eq_zero.mp hc with z | z
    · rw [← z, ‹t = 0›]
    · exact absurd z h
theorem frac_neg_neg {t l : Int} (h : l ≠ 0) : fracT (-t) (-l) = fracT t l ∧ fracL (-t) (-l) = fracL t l := by
  have eg : gcdI (-t) (-l) = gcdI t l := by
    unfold gcdI
    rw [Int.natAbs_neg, Int.natAbs_neg]
  refine ⟨?_, ?_⟩
  · unfold fracT
    rw [eg]
    congr 1
    by_cases h1 : 0 < l
    · rw [if_pos h1, if_neg (by omega)]
      omega
    · rw [if_neg h1, if_pos (by omega)]
      omega
  · unfold fracL
    rw [eg, Int.natAbs_neg]
/-- T/L is not (T + L)/L, nor (2T + 1)/2L -/
theorem frac_other1 {T L : Int} (hL : 0 < L) : ¬ (T = fracT (T + L) L ∧ L = fracL (T + L) L) := by
  rintro ⟨h1, h2⟩
  have hc := frac_cross (t := T + L) (l := L) (by omega)
  rw [← h1, ← h2, Int.add_mul] at hc
  have : 0 < L * L := Int.mul_pos hL hL
  omega
theorem frac_other2 {T L : Int} (hL : 0 < L) : ¬ (T = fracT (T * 2 + 1) (L * 2) ∧ L = fracL (T * 2 + 1) (L * 2)) := by
  rintro ⟨h1, h2⟩
  have hc := frac_cross (t := T * 2 + 1) (l := L * 2) (by omega)
  rw [← h1, ← h2, Int.add_mul, Int.mul_assoc T 2 L, Int.mul_comm 2 L] at hc
  omega
/-! texts of numbers -/
theorem int_text_len {i : Int} (h : i.natAbs.log2 < 1920) : ((toString i : String) : Str).length ≤ 1921 := PyProof.Rows.int_text_len_1921 h
theorem int_text_low {i : Int} : ∀ c ∈ ((toString i : String) : Str).cps.toList, c < 128 := fun c hc => by
  rcases Nat.lt_or_ge c 128 with h | h
  · exact h
  · exact absurd hc (PyProof.Rows.int_text_free' c ⟨by omega, by omega⟩ i)
/-- a text whose repr has room -/
structure Small (y : Str) (n : Nat) : Prop where
  len : y.length ≤ n
  low : ∀ c ∈ y.cps.toList, c < 128
theorem Small.int {i : Int} (h : i.natAbs.log2 < 1920) : Small ((toString i : String) : Str) 1921 := ⟨int_text_len h, int_text_low⟩
theorem Small.app {x y : Str} {n m : Nat} (a : Small x n) (b : Small y m) : Small (x ++ y) (n + m) := by
  refine ⟨?_, fun c hc => ?_⟩
  · rw [strLen_append]
    exact Nat.add_le_add a.len b.len
  · rw [Str.cps_append, Array.toList_append] at hc
    rcases List.mem_append.mp hc with h | h
    · exact a.low c h
    · exact b.low c h
theorem Small.mono {x : Str} {n m : Nat} (a : Small x n) (h : n ≤ m) : Small x m := ⟨Nat.le_trans a.len h, a.low⟩
theorem Small.repr {y : Str} {n : Nat} (a : Small y n) (h : n ≤ 1000000) : (reprText y).length ≤ sizeLine := by
  have h1 := StrLaws.reprText_len y fun c hc => Nat.lt_of_lt_of_le (a.low c hc) (by decide)
  have h2 := a.len
  have h3 : sizeLine = 16777216 := rfl
  omega
theorem shaped_str {y : Str} {n : Nat} (a : Small y n) : SeqAt.shaped (.str y) = true := by
  have h : (PyData.str y).canLay0 = true := by
    show PySem.PyData.strOk y = true
    unfold PySem.PyData.strOk
    rw [Array.all_eq_true]
    intro j hj
    have := a.low y.cps[j] (by simp)
    exact decide_eq_true (by omega)
  unfold SeqAt.shaped
  rw [h]
  rfl
/-- a dict comprehension's turns over a list that stays -/
theorem dcW_list {K : PySem.W.Frag} {a : Addr} {xs : List V} {g : TG} {tt : TT} {tk tv : TE} {vs : List Nat} {σ : L2.St} {H1 : Hp} {D : Addr} {Qd : Hp → Prop} (Pv : Nat → Hp → Prop) (h0 : Pv 0 (L2.upd H1 D (.dK [])))
    (hl : ∀ i H, i ≤ xs.length → Pv i H → SqL K H a xs)
    (hs : ∀ i x H, xs[i]? = some x → Pv i H → g x (wipe σ vs) H fun σ2 H2 => wipe σ2 vs = wipe σ vs ∧ tt σ2 H2 fun b H3 =>
      if b = true then tk σ2 H3 fun y H4 => tv σ2 H4 fun z H5 => ∃ kvs k, y = kV k ∧ H5 D = some (.dK kvs) ∧ kvs.length < sizeLine ∧ Pv (i + 1) (L2.upd H5 D (.dK (putK kvs k z))) else Pv (i + 1) H3)
    (hd : ∀ H, Pv xs.length H → Qd H) :
    ∃ W : Nat → Nat → Hp → Prop, (∃ m, W 0 m (L2.upd H1 D (.dK []))) ∧ ∀ i m H, W i m H →
      ((Itl K a).stop i H ∧ Qd H) ∨ ((Itl K a).go i H ∧ ∃ Nx : Hp → Prop, (∀ H', Nx H' → ∃ m', m' < m ∧ W (i + 1) m' H') ∧ ∀ x H', (Itl K a).yld i H x H' → g x (wipe σ vs) H' fun σ2 H2 => wipe σ2 vs = wipe σ vs ∧ tt σ2 H2 fun b H3 =>
        if b = true then tk σ2 H3 fun y H4 => tv σ2 H4 fun z H5 => ∃ kvs k, y = kV k ∧ H5 D = some (.dK kvs) ∧ kvs.length < sizeLine ∧ Nx (L2.upd H5 D (.dK (putK kvs k z))) else Nx H3) := by
  refine ⟨fun i m H => m + i = xs.length ∧ Pv i H, ⟨xs.length, rfl, h0⟩, fun i m H w => ?_⟩
  obtain ⟨hm, hp⟩ := w
  have hq := hl i H (by omega) hp
  rcases Nat.lt_or_ge i xs.length with hlt | hge
  · refine .inr ⟨⟨xs, xs[i], hq, by simp [hlt]⟩, Pv (i + 1), fun H' hn => ⟨m - 1, by omega, by omega, hn⟩, fun x H' y => ?_⟩
    obtain ⟨e, y⟩ := y
    subst e
    exact hs i x _ (y xs hq) hp
  · obtain rfl : i = xs.length := by omega
    exact .inl ⟨⟨xs, hq, Nat.le_refl _⟩, hd H hp⟩
/-- sorted of a dict with text keys, by a name -/
def rSortN : List V → Hp → VK → Prop := fun xs H Q => ∃ (a : Addr) (kvs : List (Key × V)) (ks : List Str), xs = [.ref a] ∧ Rd H a (.dK kvs) ∧ kvs.map (·.1) = ks.map Sum.inr ∧ ks.length < 64 ∧ ∀ ys p, ys.Perm ks → sortedS ys = true → H p = none → Q (.ref p) (L2.upd H p (.lst (ys.map V.str)))
theorem cr_sortN {X : Cx} (hc : X.calm = true) : CallR X (.builtin "sorted") rSortN := call_sortedD hc
/-- {k: v for k in sorted(d) if ..} -/
theorem dc_sorted {K : PySem.W.Frag} {j : Nat} {d : Addr} {kvs : List (Key × V)} {ks : List Str} {g : TG} {tt : TT} {tk tv : TE} {vs : List Nat} {σ : L2.St} {H : Hp} {Q : VK} (hv : σ[j]? = some (some (.ref d))) (hd : H d = some (.dK kvs))
    (hk : kvs.map (·.1) = ks.map Sum.inr) (hn : ks.length < 64)
    (h : ∀ (ys : List Str) (s D : Addr) (H1 : Hp), ys.Perm ks → sortedS ys = true → Ext H H1 → H1 s = some (.lst (ys.map V.str)) → H1 D = none →
      ∃ Pv : Nat → Hp → Prop, Pv 0 (L2.upd H1 D (.dK [])) ∧ (∀ i H', Pv i H' → H' s = some (.lst (ys.map V.str))) ∧
        (∀ i x H', ys[i]? = some x → Pv i H' → g (.str x) (wipe σ vs) H' fun σ2 H2 => wipe σ2 vs = wipe σ vs ∧ tt σ2 H2 fun b H3 =>
          if b = true then tk σ2 H3 fun y H4 => tv σ2 H4 fun z H5 => ∃ kvs k, y = kV k ∧ H5 D = some (.dK kvs) ∧ kvs.length < sizeLine ∧ Pv (i + 1) (L2.upd H5 D (.dK (putK kvs k z))) else Pv (i + 1) H3) ∧
        (∀ H', Pv ys.length H' → Q (.ref D) H')) :
    tDc (iList K (tCB rSortN (tCons (tVar j) tNil))) g tt tk tv vs σ H Q := by
  refine ⟨_, hv, d, kvs, ks, rfl, .inl hd, hk, hn, fun ys s hp hs hsn => ⟨s, rfl, ⟨_, ofL upd_same⟩, fun D hD => ?_⟩⟩
  obtain ⟨Pv, h0, h1, h2, h3⟩ := h ys s D _ hp hs (Ext.upd hsn) upd_same hD
  refine dcW_list (a := s) (xs := ys.map V.str) Pv h0 (fun i H' _ p => ofL (h1 i H' p)) (fun i x H' hx p => ?_) (fun H' p => h3 H' (by rw [List.length_map] at p; exact p))
  rw [List.getElem?_map] at hx
  cases e : ys[i]? with
  | none => rw [e] at hx; cases hx
  | some y =>
    rw [e] at hx
    obtain rfl : x = V.str y := (Option.some.inj hx).symm
    exact h2 i y H' e p
end Own

set_option Elab.async false
set_option maxRecDepth 100000
set_option maxHeartbeats 4000000
set_option linter.all false
/-! Defs that are run where nothing is being shown (no repr of a list or tuple is under way): repr of data is then known. -/
namespace Own
open PySem PySem.Spec PyProof.Rows L2
/-- a promise that is kept where no repr is under way -/
structure FnG (P : Program) (w : World) (K : PySem.W.Frag) (mg : Str → Option Value) (base : Heap) (CX : CXT) (k : Nat) (f : Addr) (fd : FuncData) (ps : List Str) (sp : Sp) : Prop where
  len : ∀ vs H Q E, sp vs H Q E → vs.length = ps.length
  run : ∀ (A : Around) (outer : List Env) (s : Shared) (H : Hp) (args : Args) (us : List Value) (vs : List V) (Q : VK) (E : XK), A.guards = some [] → Room k A → Env0 P w K mg base A outer s H →
    BindsTo s fd args (ps.zip us) → Vals vs us → sp vs H Q E → codeAny (model P w) A (.call (.ref f) args) (CR CX outer P w H s Q E) s
section
variable {P : Program} {w : World} {K : PySem.W.Frag} {mg : Str → Option Value} {base : Heap} {CX : CXT} {k : Nat} {f : Addr} {fd : FuncData} {ps : List Str} {sp : Sp}
theorem FnG.of (F : FnOk P w K mg base CX k f fd ps sp) : FnG P w K mg base CX k f fd ps sp := ⟨F.len, fun A outer s H args us vs Q E _ => F.run A outer s H args us vs Q E⟩
/-- a def by its body, as fn_of: no repr is under way in the body either -/
theorem fn_ofG {name qual : Str} {params : Arguments} {body : List Stmt} {scope : Scope} {dV kV doc pm cdv ct oc : Value} {an od : Option Addr} {osl : Array (Option Value)} {N : List Str}
    (lk : K.lookup f = some ⟨oc, od, .func (PySem.W.fnOf name qual params body scope dV kV doc pm an cdv ct), osl⟩) (hcd : PySem.W.codeIn K cdv qual = true) (S : FnScope N ps scope) (len : ∀ vs H Q E, sp vs H Q E → vs.length = ps.length)
    (hbody : ∀ (A : Around) (outer : List Env) (s : Shared) (H : Hp) (vs : List V) (Q : VK) (E : XK), A.guards = some [] → Room k (A.deeper (envOfC qual scope s.heap.objs.size f cdv)) → sp vs H Q E →
      ∃ t, PSs (cxOf CX P w K mg base N qual scope f cdv A outer s H E) body t ∧ t { nx := fun _ H' => Q .non H', rt := Q } (L2.start N vs) H) :
    FnG P w K mg base CX (k + 1) f (PySem.W.fnOf name qual params body scope dV kV doc pm an cdv ct) ps sp := by
  constructor
  · exact len
  · intro A outer s H args us vs Q E hg hr e0 hb r hsp
    have hl : vs.length = ps.length := len vs H Q E hsp
    have sees : ∀ b o, base.get? b = some o → s.heap.get? b = some o := fun b o e => (e0.bs b o e).1
    have KX : K.In s.heap := e0.mod.kin.keeps sees
    have par : ∀ y ∈ ps.zip us, scope.names.lookup y.1 = some .local ∨ (scope.names.lookup y.1 = some .cell ∧ ((cellsFrom (s.heap.objs.size + 1) scope.names []).lookup y.1).isSome = true) := by
      rintro ⟨n, v⟩ hy
      have hn : n ∈ ps := (List.of_mem_zip hy).1
      cases S.par n hn with
      | inl q => exact .inl q
      | inr q => exact .inr ⟨q, PySem.W.cellsFrom_some _ _ _ (.inl q)⟩
    refine codeAny_call_function hr.depth (KX f _ lk) rfl S.co S.gen rfl (PySem.W.codeRec_of KX hcd) ?_
    refine hb _ _ _ _ (wpAny_newFunctionEnv_cells S.kind par ?_)
    intro env he s1 x
    subst he
    refine ⟨(e0.mod.nolimit.keeps sees).keeps x.toInCall.keep, codeAny_func ?_⟩
    obtain ⟨t, ht, hq⟩ := hbody A outer s H vs Q E hg (hr.deeper _) hsp
    refine wpAny_mono (ht.run [] s1 (L2.start N vs) H _ (inv_start S hr.hd e0 hl r x) hq) ?_ (fun e s' z => z)
    intro fl s' hs
    cases fl with
    | brk => exact hs.elim fun _ z => z.elim fun _ z => z.2.elim
    | cont => exact hs.elim fun _ z => z.elim fun _ z => z.2.elim
    | next =>
      obtain ⟨σ', H', J, q⟩ := hs
      exact ⟨V.non, H', J.os, J.bare, J.base, J.hok, rfl, q⟩
    | ret u =>
      obtain ⟨v, σ', H', J, rv, q⟩ := hs
      exact ⟨v, H', J.os, J.bare, J.base, J.hok, rv, q⟩
/-- the same for a def of the text that lets nothing out -/
theorem okG {x qual : Str} {st : Stmt} {N : List Str} (F : Fun K x qual st f fd) (S : FnScope N ps (defScope st)) (len : ∀ vs H Q E, sp vs H Q E → vs.length = ps.length)
    (hbody : ∀ (cdv : Value) (A : Around) (outer : List Env) (s : Shared) (H : Hp) (vs : List V) (Q : VK) (E : XK), A.guards = some [] → Room k (A.deeper (envOfC qual (defScope st) s.heap.objs.size f cdv)) → sp vs H Q E →
      ∃ t, PSs (cxOf CX0 P w K mg base N qual (defScope st) f cdv A outer s H E).nox (defBody st) t ∧ t { nx := fun _ H' => Q .non H', rt := Q } (L2.start N vs) H) : FnG P w K mg base CX0 (k + 1) f fd ps sp := by
  obtain ⟨oc, od, kV, doc, pm, an, cdv, ct, osl, rfl, lk, hcd⟩ := F.ex
  refine fn_ofG lk hcd S len fun A outer s H vs Q E hg hr hsp => ?_
  obtain ⟨t, h, q⟩ := hbody cdv A outer s H vs Q E hg hr hsp
  exact ⟨t, h.nox, q⟩
end
section
variable {X : Cx} {CX : CXT} {k : Nat} {f : Addr} {fd : FuncData} {ps : List Str} {sp : Sp} {E : XK} {x : Str} {p pos : Pos} {e : Expr} {es : List Expr} {t : TA}
/-- f(e, ..) of such a def, from a body in which no repr is under way -/
theorem pe_callG (F : FnG X.prog X.w X.K X.mg X.base CX k f fd ps sp) (hgd : X.A.guards = some []) (hr : Room k X.A) (hg : Gl X x) (hm : X.mg x = some (.ref f)) (hk : PySem.W.keepIn X.K (.ref f) = true) (hb : Binds X.K fd ps []) (hx : Passes CX X E)
    (ha : PA X (e :: es) t) (hdb : (x == ("__debug__" : Str)) = false := by decide) (he : starEach (e :: es) X.env = (false, eval e X.env) :: starEach es X.env := by rfl) (hpl : (backTo pos (starEach es X.env)).any (·.1) = false := by rfl) :
    PE X (.Call (.Name x p) (e :: es) [] pos) (tCall sp [] E t) := by
  constructor
  intro pins s σ H Q I h
  have args := ha.run pos pins s σ H _ I h
  refine wpAny_Call_Name_kw (ld_glob I hg hm ?_ hdb)
  refine PySem.W.callWith_K (h₀ := X.base) I.ok.mod.kin hk (thn args ?_) he hpl
  rintro us s1 ⟨vs, H1, I1, r, q⟩
  refine ⟨I1.kIn, ?_⟩
  rw [List.append_nil] at q
  have hl : (us ++ []).length = ps.length := by rw [List.append_nil, ← r.length]; exact F.len _ _ _ _ q
  have hb2 := hb s1 us I1.kIn hl
  rw [List.append_nil] at hb2
  refine wpAny_call (codeAny_mono (F.run X.A X.stack s1 H1 ⟨us, []⟩ us vs Q E hgd hr I1.env0 hb2 r q) ?_)
  intro z s' hq
  match z, hq with
  | .error e, hq => exact hx pins σ H1 s1 e s' I1 hq
  | .ok (.ret u), hq => exact I1.after hq
  | .ok .next, hq => exact hq.elim
  | .ok .brk, hq => exact hq.elim
  | .ok .cont, hq => exact hq.elim
/-- repr of data: lists, tuples, ints, texts -/
def rReprD (K : PySem.W.Frag) : List V → Hp → VK → Prop := fun vs H Q => ∃ x d, vs = [x] ∧ Dp K H x d ∧ d.showable = true ∧ d.hasDict = false ∧ d.depth ≤ 32 ∧ d.shown.length ≤ sizeLine ∧ Q (.str d.shown) H
end

section
variable {X : Cx}
theorem call_reprD (hgd : X.A.guards = some []) (hr : Room 1 X.A) : CallR X (.builtin "repr") (rReprD X.K) := by
  intro pins s σ H xs us Q I r h
  obtain ⟨x, d, rfl, hd, h1, h2, h3, h4, q⟩ := h
  obtain ⟨u, rfl, ru⟩ := vals1 r
  obtain ⟨as, rd⟩ := Dp.reads I d x u hd ru
  have hu : X.A.units + (d.depth + 1) < cLine := by
    have := hr.units
    omega
  cases hd with
  | non =>
    cases (show u = Value.none from ru)
    exact PySem.P.repr_of_none ⟨.str _, H, I.tok _, ⟨_, rfl⟩, q⟩
  | bl b =>
    cases (show u = Value.bool b from ru)
    exact PySem.P.repr_of_bool ⟨.str _, H, I.tok _, ⟨_, rfl⟩, q⟩
  | int i =>
    obtain ⟨t, rfl⟩ := (show ∃ t, u = Value.int i t from ru)
    exact PySem.P.repr_of_int (of_decide_eq_true h1) ⟨.str _, H, I.tok _, ⟨_, rfl⟩, q⟩
  | str y =>
    obtain ⟨t, rfl⟩ := (show ∃ t, u = Value.str y t from ru)
    exact PySem.P.repr_of_str ⟨.str _, H, I.tok _, ⟨_, rfl⟩, q⟩ h4
  | @lst a xs ds hs ha =>
    cases (show u = Value.ref a from ru)
    exact PySem.repr_of_reads' rd h1 (PyData.noDict_hsm h2) hgd hu (fun _ _ e => e) (fun h' v tk hk => ⟨.str _, H, I.kept hk, ⟨_, rfl⟩, q⟩) h4
  | @tup a xs ds hs ha =>
    cases (show u = Value.ref a from ru)
    exact PySem.repr_of_reads' rd h1 (PyData.noDict_hsm h2) hgd hu (fun _ _ e => e) (fun h' v tk hk => ⟨.str _, H, I.kept hk, ⟨_, rfl⟩, q⟩) h4
end
/-- data that holds no dict is no dict -/
theorem ty_data {K : PySem.W.Frag} {H : Hp} {y : V} {d : PyData} (h : Dp K H y d) : ∃ n, TyX K H y (.type n) ∧ kitB n "dict" = some false := by
  cases h with
  | non => exact ⟨_, .base .non, by decide +kernel⟩
  | bl b => exact ⟨_, .base (.bl b), by decide +kernel⟩
  | int i => exact ⟨_, .base (.int i), by decide +kernel⟩
  | str x => exact ⟨_, .base (.str x), by decide +kernel⟩
  | @lst a xs ds hs _ =>
    rcases hs with (hs | ⟨o, hs⟩) | hs
    · exact ⟨_, .base (.lst hs), by decide +kernel⟩
    · exact ⟨_, .base (.frz hs), by decide +kernel⟩
    · obtain ⟨o, its, n, hk, hc, _⟩ := hs
      exact ⟨_, .kList hk hc, by decide +kernel⟩
  | @tup a xs ds hs _ =>
    rcases hs with (hs | ⟨o, hs⟩) | hs
    · exact ⟨_, .base (.tup hs), by decide +kernel⟩
    · exact ⟨_, .fTuple hs, by decide +kernel⟩
    · obtain ⟨o, its, n, hk, hc, _⟩ := hs
      exact ⟨_, .kTuple hk hc, by decide +kernel⟩
/-! the law's own call: nothing is being shown when it begins -/
theorem ints_vals {vs : List Value} {ns : List Int} (h : IntsAre vs ns) : Vals (ns.map V.int) vs := vals_ints h
theorem law_runG {P : Program} {w : World} {K : PySem.W.Frag} {mg mb : Str → Option Value} {CX : CXT} {k : Nat} {fa a : Addr} {fd : FuncData} {x : Str} {sp : Sp} {s₁ : Shared} {vs : List Value} {H : Hp}
    (hO : Only H) (hA : ∀ b, H b ≠ none → b = a) (hKa : H a ≠ none → K.lookup a = none) (hok : HOk P w H s₁.heap)
    (KX : K.In s₁.heap) (hns : s₁.heap.Ns mainGlobals mg) (hb : s₁.heap.Ns builtinsNs mb) (hbb : ∀ x : Str, x ≠ "__name__" → mb x = bootBuiltins x) (hlim : s₁.heap.NoLimit) (hg : s₁.gens = #[])
    (ha : s₁.heap.get? a = some { cls := .type "list", data := .seq vs.toArray }) (hr : Room k callerA)
    (F : ∀ base : Heap, K.In base → base.Ns mainGlobals mg → FnG P w K mg base CX k fa fd [x] sp) (hbind : ∀ (s : Shared) (u : Value), BindsTo s fd ⟨[u], []⟩ [(x, u)])
    (hsp : sp [.ref a] H (fun v _ => v = .bl true) fun _ _ _ => False) (hCX : ∀ e s', CX [] H s₁ (fun _ _ _ => False) e s' → False) :
    codeAny (model P w) callerA (.call (.ref fa) ⟨[.ref a], []⟩) (fun r s' => r = .ok (.ret (.bool true)) ∧ OldK s₁.heap s'.heap ∧ s'.os = s₁.os ∧ AllBare s'.gens) s₁ := by
  have free : ∀ b, b ≠ a → H b = none := fun b hne => Classical.byContradiction fun z => hne (hA b z)
  have notA : ∀ {o : Obj} {es : Array DictEntry} {ep : Nat} {b : Addr}, s₁.heap.get? b = some o → o.data = .dict es ep → b ≠ a := by
    intro o es ep b e d z
    rw [z, ha] at e
    rw [← Option.some.inj e] at d
    cases d
  have inBase : ∀ {b : Addr} {m : Str → Option Value}, s₁.heap.Ns b m → (hidT s₁.heap H).Ns b m := by
    rintro b m ⟨o, es, ep, e, d, r⟩
    exact ⟨o, es, ep, hidT_get e (free b (notA e d)), d, r⟩
  have KB : K.In (hidT s₁.heap H) := by
    intro b o e
    refine hidT_get (KX b o e) (Classical.byContradiction fun z => ?_)
    have := hKa ((hA b z) ▸ z)
    rw [← hA b z, e] at this
    cases this
  obtain ⟨mc, l1, l2⟩ := hlim
  have M : Mod K mg (hidT s₁.heap H) := ⟨KB, inBase hns, ⟨mb, inBase hb, hbb⟩, ⟨mc, inBase l1, l2⟩⟩
  have none_in : ∀ b, b ∉ ([] : List Addr) := fun b => List.not_mem_nil
  have e0 : Env0 P w K mg (hidT s₁.heap H) callerA [] s₁ H := ⟨rfl, M, fun b o e => of_hidT e, Nat.le_of_eq (hidT_size _ _), trivial, fun b z => absurd z (none_in b), hok, .of_eq hg⟩
  have run := (F _ KB (inBase hns)).run callerA [] s₁ H ⟨[.ref a], []⟩ [.ref a] [.ref a] _ _ rfl hr e0 (hbind s₁ (.ref a)) (.cons rfl .nil) hsp
  refine codeAny_mono run ?_
  intro r s' h
  match r, h with
  | .error e, h => exact (hCX e s' h).elim
  | .ok .next, h => exact h.elim
  | .ok .brk, h => exact h.elim
  | .ok .cont, h => exact h.elim
  | .ok (.ret u), h =>
    obtain ⟨v, H', os, bare, un, hok', rv, rfl⟩ := h
    obtain rfl : u = Value.bool true := rv
    refine ⟨rfl, OldK.of_keep ?_, os, bare⟩
    intro b o e
    cases q : H b with
    | none => exact un.keep b o e q (none_in b) (none_in b)
    | some y =>
      rcases hO b with z | ⟨ob, xs, z⟩
      · rw [q] at z
        cases z
      · have k1 := (hok b _ z).1
        have k2 := (hok' b _ (un.frzs b ob _ z)).1
        rw [e] at k1
        rw [Option.some.inj k1]
        exact k2
theorem law_callG {P : Program} {w : World} {K : PySem.W.Frag} {mg mb : Str → Option Value} {CX : CXT} {k : Nat} {fa a : Addr} {fd : FuncData} {x : Str} {sp : Sp} {s₁ : Shared} {vs : List Value} {ns : List Int}
    (KX : K.In s₁.heap) (hns : s₁.heap.Ns mainGlobals mg) (hb : s₁.heap.Ns builtinsNs mb) (hbb : ∀ x : Str, x ≠ "__name__" → mb x = bootBuiltins x) (hlim : s₁.heap.NoLimit) (hg : s₁.gens = #[])
    (ha : s₁.heap.get? a = some { cls := .type "list", data := .seq vs.toArray }) (hi : IntsAre vs ns) (hl : ns.length ≤ sizeLine) (hr : Room k callerA)
    (F : ∀ base : Heap, K.In base → base.Ns mainGlobals mg → FnG P w K mg base CX k fa fd [x] sp) (hbind : ∀ (s : Shared) (u : Value), BindsTo s fd ⟨[u], []⟩ [(x, u)])
    (hsp : ∀ H : Hp, Only H → SqL K H a (ns.map V.int) → sp [.ref a] H (fun v _ => v = .bl true) fun _ _ _ => False) (hCX : ∀ H e s', CX [] H s₁ (fun _ _ _ => False) e s' → False) :
    codeAny (model P w) callerA (.call (.ref fa) ⟨[.ref a], []⟩) (fun r s' => r = .ok (.ret (.bool true)) ∧ OldK s₁.heap s'.heap ∧ s'.os = s₁.os ∧ AllBare s'.gens) s₁ := by
  have rv := ints_vals hi
  have lv : vs.length = ns.length := hi.length
  cases hk : K.lookup a with
  | some o =>
    have e := KX a o hk
    rw [ha] at e
    obtain rfl := Option.some.inj e
    have hO : Only (fun _ => none) := fun _ => .inl rfl
    have hok : HOk P w (fun _ => none) s₁.heap := fun b u z => by cases (show (none : Option HO) = some u from z)
    exact law_runG hO (fun b z => absurd rfl z) (fun z => absurd rfl z) hok KX hns hb hbb hlim hg ha hr F hbind
      (hsp _ hO (.inr ⟨_, vs.toArray, _, hk, rfl, rfl, rfl, by rw [List.size_toArray, lv]; exact hl, by simpa using rv⟩)) (hCX _)
  | none =>
    let H0 : Hp := fun b => if b = a then some (.frz { cls := .type "list", data := .seq vs.toArray } (.lst (ns.map V.int))) else none
    have at_a : H0 a = some (.frz { cls := .type "list", data := .seq vs.toArray } (.lst (ns.map V.int))) := if_pos rfl
    have off : ∀ b, b ≠ a → H0 b = none := fun b hne => if_neg hne
    have hO : Only H0 := fun b => by
      by_cases e : b = a
      · exact .inr ⟨_, _, e ▸ at_a⟩
      · exact .inl (off b e)
    have hA : ∀ b, H0 b ≠ none → b = a := fun b z => Classical.byContradiction fun e => z (off b e)
    have hok : HOk P w H0 s₁.heap := fun b u z => by
      have e : b = a := hA b (by rw [z]; simp)
      subst e
      rw [at_a] at z
      obtain rfl := Option.some.inj z
      exact ⟨ha, by rw [List.length_map]; exact hl, vs, _, rv, ha⟩
    exact law_runG hO hA (fun _ => hk) hok KX hns hb hbb hlim hg ha hr F hbind (hsp H0 hO (.inl (.inr ⟨_, at_a⟩))) (hCX _)
theorem walk_ofG {l : PySem.W.OpenLaw} {n k : Nat} {q : Program} {loose : List Str} {XP : (Str → Option Value) → Heap → Prop} {YP : World → Heap → Prop} {d : DefRec} {K : Params → PySem.W.Frag} {CX : World → CXT} {sp : World → Sp} {x : Str}
    (hn : l.most = some n) (hn2 : n ≤ sizeLine) (hdf : d.params.defaults = []) (hr : Room k callerA) (hY : ∀ (w : World) (h : Heap), YP w h → (K w.params).In h)
    (F : ∀ (w : World) (mg : Str → Option Value) (fa : Addr) (h : Heap), (K w.params).In h → h.Ns mainGlobals mg → mg d.name = some (.ref fa) →
      ∃ fd : FuncData, (∀ (s : Shared) (u : Value), BindsTo s fd ⟨[u], []⟩ [(x, u)]) ∧ ∀ base : Heap, (K w.params).In base → base.Ns mainGlobals mg → FnG l.prog w (K w.params) mg base (CX w) k fa fd [x] (sp w))
    (hsp : ∀ (w : World) (H : Hp) (a : Addr) (ns : List Int), ns.length ≤ n → Only H → SqL (K w.params) H a (ns.map V.int) → sp w [.ref a] H (fun v _ => v = .bl true) fun _ _ _ => False)
    (hCX : ∀ (w : World) (H : Hp) (s : Shared) (e : Value) (s' : Shared), CX w [] H s (fun _ _ _ => False) e s' → False) :
    PySem.W.WalkO q loose XP YP l.row.toRowW d [] (fun f vs => PySem.call f vs) := by
  refine Att.attach_call hn hdf ?_
  intro w s₀ s₁ mg mb fa o pm cd doc a vs ns G Y ho hd hcd hmg hobj hints hlen hg
  have KX := hY w _ Y
  obtain ⟨fd, hb, hF⟩ := F w mg fa _ KX G.T.g hmg
  exact law_callG KX G.T.g G.T.b G.T.builtins G.T.nolimit hg hobj hints (Nat.le_trans hlen hn2) hr hF hb (fun H hO hS => hsp w H a ns hlen hO hS) (fun H e s' => hCX w H s₁ e s')
end Own

set_option Elab.async false
set_option maxRecDepth 100000
set_option maxHeartbeats 4000000
set_option linter.all false
/-! comprehensions by walks; names -/
namespace Own
open PySem PySem.Spec PyProof.Rows L2
theorem tLc_i {wi : TI} {g : TG} {tt : TT} {te : TE} {vs : List Nat} {σ : L2.St} {H H1 : Hp} {Q : VK} {J : It} {n : Nat} {G : Hp → Prop} {Y : Nat → Hp → V → Hp → Prop} (hwi : ∀ R : It → Hp → Prop, R J H1 → wi σ H R) (w : Walk J n G Y)
    (h : ∀ D, H1 D = none → ∃ Pv : Nat → Hp → Prop, Pv 0 (L2.upd H1 D (.lst [])) ∧ (∀ i H, i ≤ n → Pv i H → G H) ∧
      (∀ i x H H', i < n → Pv i H → Y i H x H' → g x (wipe σ vs) H' fun σ2 H2 => wipe σ2 vs = wipe σ vs ∧ tt σ2 H2 fun b H3 =>
        if b = true then te σ2 H3 fun y H4 => ∃ acc, H4 D = some (.lst acc) ∧ acc.length < sizeLine ∧ Pv (i + 1) (L2.upd H4 D (.lst (acc ++ [y]))) else Pv (i + 1) H3) ∧
      (∀ H, Pv n H → Q (.ref D) H)) : tLc wi g tt te vs σ H Q :=
  hwi _ fun D hD => by
    obtain ⟨Pv, h0, hG, hs, hd⟩ := h D hD
    exact lc_it w Pv h0 hG hs hd
theorem tFor_i {wi : TI} {g : TG} {tb : TS} {D : Ends} {σ : L2.St} {H H1 : Hp} {J : It} {n : Nat} {G : Hp → Prop} {Y : Nat → Hp → V → Hp → Prop} (hwi : ∀ R : It → Hp → Prop, R J H1 → wi σ H R) (w : Walk J n G Y)
    (Pv : Nat → L2.St → Hp → Prop) (h0 : Pv 0 σ H1) (hG : ∀ i σ H, i ≤ n → Pv i σ H → G H)
    (hs : ∀ i x σ H H', i < n → Pv i σ H → Y i H x H' → g x σ H' fun σ2 H2 => tb { D with nx := Pv (i + 1), ct := Pv (i + 1), bk := D.nx } σ2 H2) (hd : ∀ σ H, Pv n σ H → D.nx σ H) : tFor wi g tb D σ H :=
  hwi _ (for_it w Pv h0 hG hs hd)
/-! ### texts of small letters -/
def Low (c : Nat) : Prop := 97 ≤ c ∧ c ≤ 122
/-- a text of n letters a to z -/
structure Let (z : Str) (n : Nat) : Prop where
  len : z.length = n
  low : ∀ c ∈ z.cps.toList, Low c
theorem len_list (z : Str) : z.length = z.cps.toList.length := by simp [Str.length]
theorem Let.app {x y : Str} {n m : Nat} (a : Let x n) (b : Let y m) : Let (x ++ y) (n + m) := by
  refine ⟨?_, fun c hc => ?_⟩
  · rw [strLen_append, a.len, b.len]
  · rw [Str.cps_append, Array.toList_append] at hc
    rcases List.mem_append.mp hc with h | h
    · exact a.low c h
    · exact b.low c h
theorem Let.one {c : Nat} (h : Low c) : Let ⟨#[c]⟩ 1 := ⟨rfl, fun d hd => by
  have : d = c := by simpa using hd
  exact this ▸ h⟩
theorem Let.small {z : Str} {n : Nat} (a : Let z n) : Small z n := ⟨Nat.le_of_eq a.len, fun c hc => by have := a.low c hc; unfold Low at this; omega⟩
theorem Let.cut {z : Str} {n : Nat} (a : Let z n) (k : Nat) : Let (cutS z none (some (k : Int))) (min k n) ∧ Let (cutS z (some (k : Int)) none) (n - min k n) := by
  have e : z.cps.toList.length = n := by rw [← len_list]; exact a.len
  refine ⟨⟨?_, fun c hc => ?_⟩, ⟨?_, fun c hc => ?_⟩⟩
  · rw [len_list]
    show (((z.cps.toList.drop 0).take (HT.sIx z.length z.length (some (k : Int)) - 0)).toArray.toList).length = _
    rw [HT.sIx_nat, a.len, List.drop_zero]
    simp only [List.length_take, e]
    omega
  · unfold cutS at hc
    exact a.low c (List.mem_of_mem_drop (List.mem_of_mem_take hc))
  · rw [len_list]
    show (((z.cps.toList.drop (HT.sIx z.length 0 (some (k : Int)))).take (z.length - HT.sIx z.length 0 (some (k : Int)))).toArray.toList).length = _
    rw [HT.sIx_nat, a.len]
    simp only [List.length_take, List.length_drop, e]
    omega
  · unfold cutS at hc
    exact a.low c (List.mem_of_mem_drop (List.mem_of_mem_take hc))
/-- the twenty-six letters -/
abbrev abc : Str := Str.ofString "abcdefghijklmnopqrstuvwxyz"
theorem abc_list : abc.cps.toList = List.range' 97 26 := by decide +kernel
theorem abc_at {k : Int} (h0 : 0 ≤ k) (h1 : k < 26) : atI abc.cps.toList k = some (97 + k.toNat) ∧ Low (97 + k.toNat) := by
  obtain ⟨v, e1, e2⟩ := atI_lt (xs := abc.cps.toList) h0 (by rw [abc_list, List.length_range']; omega)
  rw [abc_list, List.getElem?_range' (by omega)] at e1
  refine ⟨?_, by unfold Low; omega⟩
  rw [e2, ← e1, Nat.one_mul]
theorem Let.nil : Let Str.empty 0 := ⟨rfl, fun c hc => by simp [Str.empty] at hc⟩
theorem join_let' : ∀ (ys : List Str), (∀ y ∈ ys, Let y 1) → Let (Str.join Str.empty ys) ys.length
  | [], _ => Let.nil
  | [x], h => h x List.mem_cons_self
  | x :: z :: r, h => by
    have ih := join_let' (z :: r) fun y hy => h y (List.mem_cons_of_mem _ hy)
    have hx := h x List.mem_cons_self
    have e : Str.join Str.empty (x :: z :: r) = x ++ Str.empty ++ Str.join Str.empty (z :: r) := rfl
    rw [e]
    have := (hx.app Let.nil).app ih
    rw [show (x :: z :: r).length = 1 + 0 + (z :: r).length by simp only [List.length_cons]; omega]
    exact this
theorem join_let (ys : List Str) (h : ∀ y ∈ ys, Let y 1) : Let (PySem.Txt.join Str.empty ys) ys.length := by
  rw [TL.join_eq]
  exact join_let' ys h
/-- sep.join(list of texts), by a name -/
def rJoinN (K : PySem.W.Frag) : V → List V → Hp → VK → Prop := fun x xs H Q => ∃ a p, ∃ ys : List Str, x = .str a ∧ xs = [.ref p] ∧ (SqL K H p (ys.map V.str) ∨ SqT K H p (ys.map V.str)) ∧ (ys.map (·.length)).sum + ys.length * a.length ≤ 16777216 ∧ Q (.str (PySem.Txt.join a ys)) H
theorem pe_joinN {X : Cx} {o e : Expr} {to te : TE} {apos pos : Pos} (ho : PE X o to) (he : PE X e te) (hs : starEach [e] X.env = [(false, eval e X.env)] := by rfl) (hbase : attributeBase o "join" X.env (eval o X.env) = eval o X.env := by rfl) (hline : (apos.endLine == pos.line) = true := by rfl) :
    PE X (.Call (.Attribute o "join" apos) [e] [] pos) (tM1 (rJoinN X.K) to te) := pe_join ho he hs hbase hline
/-! rules within a comprehension's block: the written part by its own name -/
section
variable {X : Cx} {K : PySem.W.Frag}
theorem inK (h : X.K = K) : OpR X (compareOp .In) (rIn K false) := h ▸ op_in_seq
theorem notInK (h : X.K = K) : OpR X (compareOp .NotIn) (rIn K true) := h ▸ op_notIn_seq
theorem ixLK (h : X.K = K) : IxR X (rIxL K) := h ▸ ix_list
theorem ixTK (h : X.K = K) : IxR X (rIxT K) := h ▸ ix_tup
theorem slLK (h : X.K = K) : SlR X (rSlL K) := h ▸ sl_list
theorem isiK (h : X.K = K) : CallR X (.builtin "isinstance") (rIsi K) := h ▸ call_isi
theorem fldK {e : Expr} {ta : TE} {f : Str} {pos : Pos} (h : X.K = K) (he : PE X e ta) (hb : attributeBase e f X.env (eval e X.env) = eval e X.env) : PE X (.Attribute e f pos) (tFld K ta f) := h ▸ pe_fld he hb
end
/-! a text among texts -/
theorem in_strs {z : Str} {zs : List Str} : inV (.str z) (zs.map V.str) = true ↔ z ∈ zs := by
  unfold inV
  rw [List.any_map, List.any_eq_true]
  constructor
  · rintro ⟨y, hy, e⟩
    have e : eqV (.str y) (.str z) = true := e
    have : y = z := by simpa [eqV] using e
    exact this ▸ hy
  · exact fun h => ⟨z, h, by simp [eqV]⟩
theorem flat_strs (zs : List Str) : (zs.map V.str).all flatV = true := by
  rw [List.all_map, List.all_eq_true]
  exact fun _ _ => rfl
/-- the spare names -/
def cand (c t : Nat) : Str := ⟨#[122, c, 105 + t]⟩
theorem cand_let {c t : Nat} (hc : Low c) (ht : t < 12) : Let (cand c t) 3 := ⟨rfl, fun d hd => by
  have hd : d = 122 ∨ d = c ∨ d = 105 + t := by simpa [cand] using hd
  unfold Low at hc ⊢
  omega⟩
theorem cands_nd (c : Nat) : ((List.range 12).map (cand c)).Nodup := by
  rw [List.nodup_iff_pairwise_ne, List.pairwise_map]
  refine (List.nodup_range (n := 12)).imp ?_
  intro i j hne e
  have : 105 + i = 105 + j := by
    have := congrArg (fun z : Str => z.cps[2]?) e
    simpa [cand] using this
  omega
/-! ### the pigeons -/
theorem nodup_le {α : Type} [DecidableEq α] : ∀ {l m : List α}, l.Nodup → (∀ x ∈ l, x ∈ m) → l.length ≤ m.length
  | [], _, _, _ => Nat.zero_le _
  | x :: l, m, hn, h => by
    have hx : x ∈ m := h x List.mem_cons_self
    have hn' := List.nodup_cons.mp hn
    have ih := nodup_le (l := l) (m := m.erase x) hn'.2 fun y hy => (List.mem_erase_of_ne (fun e : y = x => hn'.1 (e ▸ hy))).mpr (h y (List.mem_cons_of_mem _ hy))
    rw [List.length_erase_of_mem hx] at ih
    have := List.length_pos_of_mem hx
    rw [List.length_cons]
    omega
abbrev tails : Str := Str.ofString "ijklmnopqrst"
theorem tails_size : tails.cps.size = 12 := by decide +kernel
theorem tails_list : tails.cps.toList = List.range' 105 12 := by decide +kernel
theorem tails_at {i c : Nat} (h : tails.cps[i]? = some c) : i < 12 ∧ c = 105 + i := by
  rw [← Array.getElem?_toList, tails_list] at h
  have hi := (List.getElem?_eq_some_iff.mp h).1
  rw [List.length_range'] at hi
  rw [List.getElem?_range' hi] at h
  exact ⟨hi, by have := Option.some.inj h; omega⟩
theorem cand_app (c t : Nat) : (Str.ofString "z" ++ (⟨#[c]⟩ : Str)) ++ (⟨#[t]⟩ : Str) = ⟨#[122, c, t]⟩ := by
  have e : Str.ofString "z" = ⟨#[122]⟩ := by decide +kernel
  rw [e]
  rfl
/-- some spare name is not taken -/
theorem cand_free {zs : List Str} {c : Nat} (h : zs.length < 12) : ¬ ∀ t, t < 12 → cand c t ∈ zs := fun z => by
  have := nodup_le (cands_nd c) fun x hx => by
    obtain ⟨t, ht, e⟩ := List.mem_map.mp hx
    exact e ▸ z t (List.mem_range.mp ht)
  rw [List.length_map, List.length_range] at this
  omega
/-! written tuples -/
def SqtK (K : PySem.W.Frag) (p : Addr) (xs : List V) : Prop := ∃ (o : Obj) (its : Array Value) (n : Nat), K.lookup p = some o ∧ o.cls = .type "tuple" ∧ o.data = .seq its n ∧ its.size ≤ sizeLine ∧ Vals xs its.toList
theorem SqtK.sq {K : PySem.W.Frag} {p : Addr} {xs : List V} (h : SqtK K p xs) (H : Hp) : SqT K H p xs := .inr h
/-! rows of names and numbers -/
/-- a row's cell -/
abbrev rowH (r : Str × Int) : HO := .tup [.str r.1, .int r.2]
def RowsIn (H : Hp) (ts : List Addr) (rs : List (Str × Int)) : Prop := Paired (fun t r => H t = some (rowH r)) ts rs
def RowsAt (H : Hp) (p : Addr) (rs : List (Str × Int)) : Prop := ∃ ts : List Addr, H p = some (.lst (ts.map V.ref)) ∧ RowsIn H ts rs
theorem pmono {α β : Type} {F G : α → β → Prop} (h : ∀ x y, F x y → G x y) : ∀ {xs : List α} {ys : List β}, Paired F xs ys → Paired G xs ys
  | _, _, .nil => .nil
  | _, _, .cons a b => .cons (h _ _ a) (pmono h b)
theorem RowsIn.ext {H H' : Hp} {ts : List Addr} {rs : List (Str × Int)} (h : RowsIn H ts rs) (e : Ext H H') : RowsIn H' ts rs := pmono (fun _ _ z => e _ _ z) h
theorem RowsAt.ext {H H' : Hp} {p : Addr} {rs : List (Str × Int)} (h : RowsAt H p rs) (e : Ext H H') : RowsAt H' p rs := by
  obtain ⟨ts, h1, h2⟩ := h
  exact ⟨ts, e _ _ h1, h2.ext e⟩
/-- another list is written -/
theorem RowsIn.upd {H : Hp} {q : Addr} {xs : List V} {u : HO} {ts : List Addr} {rs : List (Str × Int)} (h : RowsIn H ts rs) (hq : H q = some (.lst xs)) : RowsIn (L2.upd H q u) ts rs := pmono (fun t r z => by
  by_cases e : t = q
  · rw [e, hq] at z
    cases z
  · rw [upd_ne e]
    exact z) h
theorem RowsIn.len {H : Hp} {ts : List Addr} {rs : List (Str × Int)} (h : RowsIn H ts rs) : ts.length = rs.length := Paired.length h
theorem RowsIn.get {H : Hp} : ∀ {ts : List Addr} {rs : List (Str × Int)} {i : Nat} {t : Addr}, RowsIn H ts rs → ts[i]? = some t → ∃ r, rs[i]? = some r ∧ H t = some (rowH r)
  | _, _, _, _, .nil, e => by simp at e
  | _, _, 0, _, .cons a _, e => by
    cases (Option.some.inj e)
    exact ⟨_, rfl, a⟩
  | _, _, i + 1, _, .cons _ b, e => RowsIn.get (i := i) b (by simpa using e)
theorem RowsIn.snoc {H : Hp} {ts : List Addr} {rs : List (Str × Int)} {t : Addr} {r : Str × Int} (h : RowsIn H ts rs) (e : H t = some (rowH r)) : RowsIn H (ts ++ [t]) (rs ++ [r]) := Paired.snoc h e
def rowD (r : Str × Int) : PyData := .tuple [.str r.1, .int r.2]
theorem RowsIn.dp {K : PySem.W.Frag} {H : Hp} : ∀ {ts : List Addr} {rs : List (Str × Int)}, RowsIn H ts rs → DpAll K H (ts.map V.ref) (rs.map rowD)
  | _, _, .nil => .nil
  | _, _, .cons a b => .cons (.tup (ofT a) (.cons (.str _) (.cons (.int _) .nil))) (RowsIn.dp b)
theorem RowsAt.dp {K : PySem.W.Frag} {H : Hp} {p : Addr} {rs : List (Str × Int)} (h : RowsAt H p rs) : Dp K H (.ref p) (.list (rs.map rowD)) := by
  obtain ⟨ts, h1, h2⟩ := h
  exact .lst (ofL h1) h2.dp
end Own

set_option Elab.async false
set_option maxRecDepth 100000
set_option maxHeartbeats 4000000
set_option linter.all false
/-! data that may be held against itself and shown -/
namespace Own
open PySem PySem.Spec PyProof.Rows L2
/-- what _law_same may be asked of -/
structure Neat (d : PyData) : Prop where
  lay : d.canLay0 = true
  show_ : d.showable = true
  deep : d.depth ≤ 32
  len : d.shown.length ≤ sizeLine
theorem Neat.shaped {d : PyData} (h : Neat d) : SeqAt.shaped d = true := by
  unfold SeqAt.shaped
  rw [h.lay, Bool.true_and]
  exact decide_eq_true (Nat.le_trans h.deep (by decide))
theorem Neat.noDict {d : PyData} (h : Neat d) : d.hasDict = false := PyData.hasDict_of_canLay d h.lay
theorem Neat.refl {d : PyData} (h : Neat d) : PyData.eqv d d = true := SeqAt.eqv_refl d h.lay
/-- the same, with a bound of its own for the text and for the depth -/
structure Mild (d : PyData) (n k : Nat) : Prop where
  lay : d.canLay0 = true
  show_ : d.showable = true
  deep : d.depth ≤ k
  len : d.shown.length ≤ n
theorem Mild.neat {d : PyData} {n k : Nat} (h : Mild d n k) (hn : n ≤ 16777216) (hk : k ≤ 32) : Neat d := ⟨h.lay, h.show_, Nat.le_trans h.deep hk, Nat.le_trans h.len hn⟩
theorem Mild.mono {d : PyData} {n k m j : Nat} (h : Mild d n k) (hn : n ≤ m) (hk : k ≤ j) : Mild d m j := ⟨h.lay, h.show_, Nat.le_trans h.deep hk, Nat.le_trans h.len hn⟩
theorem Mild.int {i : Int} (h : i.natAbs.log2 < 1920) : Mild (.int i) 1921 0 := ⟨rfl, decide_eq_true h, Nat.le_refl _, int_text_len h⟩
theorem Mild.str {y : Str} {n : Nat} (a : Small y n) : Mild (.str y) (2 + 10 * n) 0 := by
  refine ⟨?_, rfl, Nat.le_refl _, ?_⟩
  · show PySem.PyData.strOk y = true
    unfold PySem.PyData.strOk
    rw [Array.all_eq_true]
    intro j hj
    have := a.low y.cps[j] (by simp)
    exact decide_eq_true (by omega)
  · show (reprText y).length ≤ _
    have h1 := StrLaws.reprText_len y fun c hc => Nat.lt_of_lt_of_le (a.low c hc) (by decide)
    have h2 := a.len
    omega
theorem textFrom_le : ∀ (ts : List Str) (k : Nat) (acc : Str), (textFrom k acc ts).length ≤ acc.length + (ts.map fun t => t.length + 2).sum
  | [], k, acc => by
    show acc.length ≤ acc.length + 0
    omega
  | t :: r, k, acc => by
    have h := textFrom_le r (k + 1) (acc ++ (if k > 0 then ", " else "" : String) ++ t)
    have e : (acc ++ (if k > 0 then ", " else "" : String) ++ t).length = acc.length + (if k > 0 then 2 else 0) + t.length := by
      rw [strLen_append, strLen_append]
      by_cases hk : k > 0
      · rw [if_pos hk, if_pos hk]
        rfl
      · rw [if_neg hk, if_neg hk]
        rfl
    have e2 : textFrom k acc (t :: r) = textFrom (k + 1) (acc ++ (if k > 0 then ", " else "" : String) ++ t) r := rfl
    rw [e2, List.map_cons, List.sum_cons]
    rw [e] at h
    have hs : (if k > 0 then 2 else 0) ≤ 2 := by split <;> omega
    omega
theorem join_le : ∀ ts : List Str, (Str.join ", " ts).length ≤ (ts.map fun t => t.length + 2).sum
  | [] => Nat.le_of_eq rfl
  | [x] => by
    show x.length ≤ x.length + 2 + 0
    omega
  | x :: y :: r => by
    have h := join_le (y :: r)
    have e : Str.join ", " (x :: y :: r) = x ++ (", " : Str) ++ Str.join ", " (y :: r) := rfl
    have e2 : ((", " : Str)).length = 2 := by decide +kernel
    rw [e, strLen_append, strLen_append, e2, List.map_cons, List.sum_cons]
    omega
theorem sum_le {m : Nat} : ∀ {ts : List Str}, (∀ t ∈ ts, t.length ≤ m) → (ts.map fun t => t.length + 2).sum ≤ ts.length * (m + 2)
  | [], _ => Nat.le_of_eq (Nat.zero_mul _).symm
  | t :: r, h => by
    have h1 := sum_le fun x hx => h x (List.mem_cons_of_mem _ hx)
    have h2 := h t List.mem_cons_self
    rw [List.map_cons, List.sum_cons, List.length_cons, Nat.succ_mul]
    omega
theorem all_mild {n k : Nat} : ∀ {ds : List PyData}, (∀ d ∈ ds, Mild d n k) → PyData.canLayAll0 ds = true ∧ PyData.showableAll ds = true ∧ PyData.depthAll ds ≤ k ∧ (PyData.shownAll ds).length = ds.length ∧ ∀ t ∈ PyData.shownAll ds, t.length ≤ n
  | [], _ => ⟨rfl, rfl, Nat.zero_le _, rfl, fun t ht => absurd ht List.not_mem_nil⟩
  | d :: ds, h => by
    obtain ⟨h1, h2, h3, h4, h5⟩ := all_mild fun x hx => h x (List.mem_cons_of_mem _ hx)
    have hd := h d List.mem_cons_self
    refine ⟨?_, ?_, ?_, ?_, ?_⟩
    · show (d.canLay0 && PyData.canLayAll0 ds) = true
      rw [hd.lay, h1]
      rfl
    · show (d.showable && PyData.showableAll ds) = true
      rw [hd.show_, h2]
      rfl
    · show max d.depth (PyData.depthAll ds) ≤ k
      exact Nat.max_le.mpr ⟨hd.deep, h3⟩
    · show (PyData.shownAll ds).length + 1 = ds.length + 1
      rw [h4]
    · intro t ht
      rcases List.mem_cons.mp (show t ∈ d.shown :: PyData.shownAll ds from ht) with e | e
      · rw [e]
        exact hd.len
      · exact h5 t e
theorem Mild.list {ds : List PyData} {n k m : Nat} (h : ∀ d ∈ ds, Mild d n k) (hm : ds.length ≤ m) : Mild (.list ds) (2 + m * (n + 2)) (k + 1) := by
  obtain ⟨h1, h2, h3, h4, h5⟩ := all_mild h
  refine ⟨h1, h2, Nat.succ_le_succ h3, ?_⟩
  show (listText (PyData.shownAll ds)).length ≤ _
  have a := textFrom_le (PyData.shownAll ds) 0 "["
  have b := sum_le h5
  rw [h4] at b
  have c : ds.length * (n + 2) ≤ m * (n + 2) := Nat.mul_le_mul_right _ hm
  have e : (listText (PyData.shownAll ds)).length = (textFrom 0 "[" (PyData.shownAll ds)).length + 1 := by
    show (textFrom 0 "[" (PyData.shownAll ds) ++ _).length = _
    rw [strLen_append]
    rfl
  have e1 : ((("[" : String) : Str)).length = 1 := by decide +kernel
  rw [e1] at a
  omega
theorem Mild.tuple {ds : List PyData} {n k m : Nat} (h : ∀ d ∈ ds, Mild d n k) (hm : ds.length ≤ m) : Mild (.tuple ds) (3 + m * (n + 2)) (k + 1) := by
  obtain ⟨h1, h2, h3, h4, h5⟩ := all_mild h
  refine ⟨h1, h2, Nat.succ_le_succ h3, ?_⟩
  show (tupleText (PyData.shownAll ds)).length ≤ _
  have a := join_le (PyData.shownAll ds)
  have b := sum_le h5
  rw [h4] at b
  have c : ds.length * (n + 2) ≤ m * (n + 2) := Nat.mul_le_mul_right _ hm
  have e : (tupleText (PyData.shownAll ds)).length ≤ (Str.join ", " (PyData.shownAll ds)).length + 3 := by
    show (("(" : Str) ++ Str.join ", " (PyData.shownAll ds) ++ (if (PyData.shownAll ds).length == 1 then ",)" else ")" : String)).length ≤ _
    rw [strLen_append, strLen_append]
    have e1 : (("(" : Str)).length = 1 := by decide +kernel
    have e2 : ((",)" : String) : Str).length = 2 := by decide +kernel
    have e3 : ((")" : String) : Str).length = 1 := by decide +kernel
    rw [e1]
    split
    · rw [e2]; omega
    · rw [e3]; omega
  omega
/-- a row of a name and a number -/
theorem Mild.row {r : Str × Int} {n : Nat} (a : Small r.1 n) (hn : n ≤ 100) (h : r.2.natAbs.log2 < 1920) : Mild (rowD r) 4000 1 := by
  refine (Mild.tuple (n := 1921) (k := 0) (m := 2) (fun d hd => ?_) (Nat.le_refl _)).mono (by decide) (Nat.le_refl _)
  rcases List.mem_cons.mp hd with e | e
  · rw [e]
    exact (Mild.str a).mono (by omega) (Nat.le_refl _)
  · rw [List.mem_singleton.mp e]
    exact Mild.int h
end Own

set_option Elab.async false
set_option maxRecDepth 100000
set_option maxHeartbeats 4000000
set_option linter.all false
/-! fractions in lowest terms are the core library's rationals -/
namespace Own
open PySem PySem.Spec PyProof.Rows L2
theorem gcd_int (t l : Int) : gcdI t l = ((l.gcd t : Nat) : Int) := by
  unfold gcdI
  rw [Nat.gcd_comm]
  rfl
theorem fracT_rat {t l : Int} (h : l ≠ 0) : fracT t l = (Rat.divInt t l).num := by
  rw [Rat.num_divInt]
  unfold fracT
  rw [gcd_int]
  congr 2
  split
  · rename_i hp
    exact (Int.sign_eq_one_of_pos hp).symm
  · rename_i hp
    exact (Int.sign_eq_neg_one_of_neg (by omega)).symm
theorem fracL_rat {t l : Int} (h : l ≠ 0) : fracL t l = ((Rat.divInt t l).den : Int) := by
  rw [Rat.den_divInt, if_neg h]
  unfold fracL
  rw [gcd_int, Int.natCast_ediv]
/-- a rational of few digits -/
structure Sz (x : Rat) (b : Nat) : Prop where
  n : x.num.natAbs < 2 ^ b
  d : x.den < 2 ^ b
theorem Sz.mono {x : Rat} {b c : Nat} (h : Sz x b) (e : b ≤ c) : Sz x c := ⟨Nat.lt_of_lt_of_le h.n (Nat.pow_le_pow_right (by decide) e), Nat.lt_of_lt_of_le h.d (Nat.pow_le_pow_right (by decide) e)⟩
theorem Sz.of {t l : Int} {b : Nat} (h : l ≠ 0) (h1 : t.natAbs < 2 ^ b) (h2 : l.natAbs < 2 ^ b) : Sz (Rat.divInt t l) b := by
  refine ⟨?_, ?_⟩
  · rw [← fracT_rat h]
    exact Nat.lt_of_le_of_lt (fracT_le h) h1
  · have e := fracL_rat (t := t) h
    have := fracL_le (t := t) h
    have : (Rat.divInt t l).den = (fracL t l).natAbs := by rw [e]; rfl
    omega
theorem den_ne (x : Rat) : (x.den : Int) ≠ 0 := by
  have := x.den_pos
  omega
theorem rat_add (x y : Rat) : Rat.divInt (x.num * y.den + y.num * x.den) (x.den * y.den) = x + y := by
  rw [← Rat.divInt_add_divInt _ _ (den_ne x) (den_ne y), Rat.num_divInt_den, Rat.num_divInt_den]
theorem rat_mul (x y : Rat) : Rat.divInt (x.num * y.num) (x.den * y.den) = x * y := by
  rw [← Rat.divInt_mul_divInt, Rat.num_divInt_den, Rat.num_divInt_den]
theorem rat_div (x y : Rat) : Rat.divInt (x.num * y.den) (x.den * y.num) = x / y := by
  rw [← Rat.divInt_mul_divInt, Rat.num_divInt_den, Rat.div_def, ← Rat.inv_divInt, Rat.num_divInt_den]
theorem mul_ne {a b : Int} (h1 : a ≠ 0) (h2 : b ≠ 0) : a * b ≠ 0 := fun z => (Int.mul_eq_zero.mp z).elim h1 h2
theorem natAbs_den (x : Rat) : (x.den : Int).natAbs = x.den := rfl
theorem lt_mul {a b c d : Nat} (h1 : a < 2 ^ b) (h2 : c < 2 ^ d) : a * c < 2 ^ (b + d) := by
  rw [Nat.pow_add]
  exact Nat.mul_lt_mul'' h1 h2
theorem Sz.add {x y : Rat} {b c : Nat} (h1 : Sz x b) (h2 : Sz y c) : Sz (x + y) (b + c + 1) := by
  rw [← rat_add]
  refine Sz.of (mul_ne (den_ne x) (den_ne y)) ?_ ?_
  · have a1 : (x.num * (y.den : Int)).natAbs < 2 ^ (b + c) := by rw [Int.natAbs_mul]; exact lt_mul h1.n h2.d
    have a2 : (y.num * (x.den : Int)).natAbs < 2 ^ (b + c) := by rw [Int.natAbs_mul, Nat.mul_comm]; exact lt_mul h1.d h2.n
    have a3 := Int.natAbs_add_le (x.num * (y.den : Int)) (y.num * (x.den : Int))
    rw [Nat.pow_succ]
    omega
  · rw [Int.natAbs_mul]
    exact Nat.lt_of_lt_of_le (lt_mul h1.d h2.d) (Nat.pow_le_pow_right (by decide) (by omega))
theorem Sz.mul {x y : Rat} {b c : Nat} (h1 : Sz x b) (h2 : Sz y c) : Sz (x * y) (b + c) := by
  rw [← rat_mul]
  refine Sz.of (mul_ne (den_ne x) (den_ne y)) ?_ ?_
  · rw [Int.natAbs_mul]
    exact lt_mul h1.n h2.n
  · rw [Int.natAbs_mul]
    exact lt_mul h1.d h2.d
theorem Sz.int {i : Int} {b : Nat} (h : i.natAbs < 2 ^ b) (hb : 1 ≤ b) : Sz (Rat.divInt i 1) b := Sz.of (by decide) h (Nat.lt_of_lt_of_le (show (1 : Int).natAbs < 2 ^ 1 by decide) (Nat.pow_le_pow_right (by decide) hb))
/-- an instance of Part that is x -/
def PartR (C : Addr) (H : Hp) (p : Addr) (x : Rat) : Prop := PartAt C H p x.num x.den
theorem PartR.ext {C : Addr} {H H' : Hp} {p : Addr} {x : Rat} (h : PartR C H p x) (e : Ext H H') : PartR C H' p x := by
  obtain ⟨d, h⟩ := h
  exact ⟨d, e _ _ h⟩
/-- a tuple that is x -/
def TupR (H : Hp) (p : Addr) (x : Rat) : Prop := H p = some (.tup [.int x.num, .int x.den])
theorem TupR.ext {H H' : Hp} {p : Addr} {x : Rat} (h : TupR H p x) (e : Ext H H') : TupR H' p x := e _ _ h
end Own

set_option Elab.async false
set_option maxRecDepth 100000
set_option maxHeartbeats 4000000
set_option linter.all false
/-! tables: each key once -/
namespace Own
open PySem PySem.Spec PyProof.Rows L2
section
variable {κ : Type} [DecidableEq κ]
/-- each key stands once -/
def Uniq (kvs : List (κ × V)) : Prop := (kvs.map (·.1)).Nodup
theorem Uniq.nil : Uniq ([] : List (κ × V)) := List.nodup_nil
theorem keys_put_old {kvs : List (κ × V)} {k : κ} {v : V} (h : (kvs.any fun kv => decide (kv.1 = k)) = true) : (putK kvs k v).map (·.1) = kvs.map (·.1) := by
  unfold putK
  rw [if_pos h, List.map_map]
  refine List.map_congr_left fun p hp => ?_
  show (if p.1 = k then (p.1, v) else p).1 = p.1
  split <;> rfl
theorem Uniq.put {kvs : List (κ × V)} (h : Uniq kvs) (k : κ) (v : V) : Uniq (putK kvs k v) := by
  cases e : valV kvs k with
  | none => exact nd_putK v h e
  | some x =>
    unfold Uniq
    rw [keys_put_old (by rw [valV_any, e]; rfl)]
    exact h
theorem Uniq.get : ∀ {kvs : List (κ × V)}, Uniq kvs → ∀ {p : κ × V}, p ∈ kvs → valV kvs p.1 = some p.2
  | [], _, _, hp => absurd hp List.not_mem_nil
  | q :: r, h, p, hp => by
    have h : (q.1 :: r.map (·.1)).Nodup := h
    rw [List.nodup_cons] at h
    rcases List.mem_cons.mp hp with e | e
    · rw [e]
      exact valV_pos rfl
    · rw [valV_neg fun z => h.1 (z ▸ List.mem_map.mpr ⟨p, e, rfl⟩)]
      exact Uniq.get (kvs := r) h.2 e
/-- what is so of each value -/
def AllV (P : V → Prop) (kvs : List (κ × V)) : Prop := ∀ p ∈ kvs, P p.2
theorem AllV.nil {P : V → Prop} : AllV P ([] : List (κ × V)) := fun _ h => absurd h List.not_mem_nil
theorem mem_put {kvs : List (κ × V)} {k : κ} {v : V} {p : κ × V} (h : p ∈ putK kvs k v) : p ∈ kvs ∨ p = (k, v) := by
  unfold putK at h
  split at h
  · obtain ⟨q, hq, e⟩ := List.mem_map.mp h
    by_cases z : q.1 = k
    · rw [if_pos z] at e
      exact .inr (by rw [← e, z])
    · rw [if_neg z] at e
      exact .inl (e ▸ hq)
  · rcases List.mem_append.mp h with h | h
    · exact .inl h
    · exact .inr (List.mem_singleton.mp h)
theorem AllV.put {P : V → Prop} {kvs : List (κ × V)} (h : AllV P kvs) (k : κ) {v : V} (hv : P v) : AllV P (putK kvs k v) := fun p hp => by
  rcases mem_put hp with e | e
  · exact h p e
  · rw [e]
    exact hv
theorem mem_of_val {kvs : List (κ × V)} {k : κ} {v : V} (h : valV kvs k = some v) : ∃ p ∈ kvs, p.1 = k ∧ p.2 = v := by
  unfold valV at h
  cases e : kvs.find? fun kv => decide (kv.1 = k) with
  | none => rw [e] at h; cases h
  | some p =>
    rw [e] at h
    exact ⟨p, List.mem_of_find?_eq_some e, of_decide_eq_true (List.find?_some (p := fun kv : κ × V => decide (kv.1 = k)) e), Option.some.inj h⟩
theorem AllV.val {P : V → Prop} {kvs : List (κ × V)} (h : AllV P kvs) {k : κ} {v : V} (e : valV kvs k = some v) : P v := by
  obtain ⟨p, hp, _, e2⟩ := mem_of_val e
  exact e2 ▸ h p hp
end
/-- an int -/
abbrev IsI (v : V) : Prop := ∃ i, v = V.int i
theorem pick5 {P : Int → Prop} {a b c d e k : Int} (h0 : 0 ≤ k) (h1 : k < 5) (ha : P a) (hb : P b) (hc : P c) (hd : P d) (he : P e) : ∃ v, atI [V.int a, .int b, .int c, .int d, .int e] k = some (.int v) ∧ P v := by
  rcases (by omega : k = 0 ∨ k = 1 ∨ k = 2 ∨ k = 3 ∨ k = 4) with rfl | rfl | rfl | rfl | rfl
  · exact ⟨a, rfl, ha⟩
  · exact ⟨b, rfl, hb⟩
  · exact ⟨c, rfl, hc⟩
  · exact ⟨d, rfl, hd⟩
  · exact ⟨e, rfl, he⟩
theorem pick2 {P : Int → Prop} {a b k : Int} (h0 : 0 ≤ k) (h1 : k < 2) (ha : P a) (hb : P b) : ∃ v, atI [V.int a, .int b] k = some (.int v) ∧ P v := by
  rcases (by omega : k = 0 ∨ k = 1) with rfl | rfl
  · exact ⟨a, rfl, ha⟩
  · exact ⟨b, rfl, hb⟩
theorem drawn6 {ds : List Int} {a b c d e f : Int} (h : Paired (fun d z => 0 ≤ d ∧ d < z) ds [a, b, c, d, e, f]) : ∃ u v w x y z : Int, ds = [u, v, w, x, y, z] ∧ (0 ≤ u ∧ u < a) ∧ (0 ≤ v ∧ v < b) ∧ (0 ≤ w ∧ w < c) ∧ (0 ≤ x ∧ x < d) ∧ (0 ≤ y ∧ y < e) ∧ (0 ≤ z ∧ z < f) := by
  cases h with
  | cons h1 h =>
    obtain ⟨v, w, x, y, z, rfl, h2⟩ := drawn5 h
    exact ⟨_, _, _, _, _, _, rfl, h1, h2⟩
/-- a name of the list -/
theorem str_at {zs : List Str} {k : Int} (h0 : 0 ≤ k) (h1 : k < zs.length) : ∃ z, z ∈ zs ∧ atI (zs.map V.str) k = some (V.str z) := by
  obtain ⟨v, e1, e2⟩ := atI_lt (xs := zs) h0 h1
  exact ⟨v, List.mem_of_getElem? e1, atI_map e2⟩
theorem Neat.bl (b : Bool) : Neat (.bool b) := by
  cases b
  · exact ⟨rfl, rfl, by decide, by decide +kernel⟩
  · exact ⟨rfl, rfl, by decide, by decide +kernel⟩
end Own
namespace Own
open PySem PySem.Spec PyProof.Rows L2
/-! a dict that is walked -/
/-- all cells but d stay -/
def Off (d : Addr) (H H' : Hp) : Prop := ∀ b o, H b = some o → b ≠ d → H' b = some o
theorem Off.upd {d : Addr} {H : Hp} {u : HO} : Off d H (L2.upd H d u) := fun b o hb hne => by
  rw [upd_ne hne]
  exact hb
theorem Off.ext {d : Addr} {H H' H2 : Hp} (h : Off d H H') (e : Ext H' H2) : Off d H H2 := fun b o hb hne => e _ _ (h b o hb hne)
theorem Ext.off {d : Addr} {H H' H2 : Hp} (e : Ext H H') (h : Off d H' H2) : Off d H H2 := fun b o hb hne => h b o (e _ _ hb) hne
theorem Off.trans {d : Addr} {H H' H2 : Hp} (h : Off d H H') (h2 : Off d H' H2) : Off d H H2 := fun b o hb hne => h2 b o (h b o hb hne) hne
/-- behind the walk all is as ahead of it, and what is new -/
theorem lock_out {d : Addr} {od : Obj} {H H' : Hp} {u : HO} (hd : H d = some u) (e : Ext (L2.upd H d (.frz od u)) H') : Ext H (L2.upd H' d u) := fun b o hb => by
  by_cases z : b = d
  · rw [z] at hb ⊢
    rw [upd_same, ← hb, hd]
  · rw [upd_ne z]
    exact e _ _ (by rw [upd_ne z]; exact hb)
theorem rd_frz {d : Addr} {od : Obj} {H H' : Hp} {u : HO} (e : Ext (L2.upd H d (.frz od u)) H') : H' d = some (.frz od u) := e _ _ upd_same
theorem rd_lock {d s : Addr} {od : Obj} {H H' : Hp} {u u2 : HO} (hd : H d = some u) (hs : H s = some u2) (e : Ext (L2.upd H d (.frz od u)) H') : Rd H' s u2 := by
  by_cases z : s = d
  · rw [z, hd] at hs
    rw [z, ← Option.some.inj hs]
    exact .inr ⟨od, rd_frz e⟩
  · exact .inl (e _ _ (by rw [upd_ne z]; exact hs))
theorem off_lock {d : Addr} {od : Obj} {H H' : Hp} {u : HO} (e : Ext (L2.upd H d (.frz od u)) H') : Off d H H' := Off.upd.ext e
theorem PartR.off {C d p : Addr} {H H' : Hp} {x : Rat} {kvs : List (Key × V)} (h : PartR C H p x) (hd : H d = some (.dK kvs)) (e : Off d H H') : PartR C H' p x := by
  obtain ⟨q, h⟩ := h
  exact ⟨q, e _ _ h fun z => by rw [z, hd] at h; cases h⟩
theorem TupR.off {d p : Addr} {H H' : Hp} {x : Rat} {kvs : List (Key × V)} (h : TupR H p x) (hd : H d = some (.dK kvs)) (e : Off d H H') : TupR H' p x := by
  unfold TupR at h ⊢
  exact e _ _ h fun z => by rw [z, hd] at h; cases h
theorem seqL_off {K : PySem.W.Frag} {H H' : Hp} {p d : Addr} {xs : List V} {kvs : List (Key × V)} (h : SqL K H p xs) (hd : H d = some (.dK kvs)) (e : Off d H H') : SqL K H' p xs := by
  have ne : ∀ {u}, H p = some u → (∀ k, u ≠ .dK k) → p ≠ d := fun {u} hu hk z => by
    rw [z, hd] at hu
    exact hk kvs (Option.some.inj hu).symm
  rcases h with (h | ⟨o, h⟩) | h
  · exact .inl (.inl (e _ _ h (ne h fun k z => by cases z)))
  · exact .inl (.inr ⟨o, e _ _ h (ne h fun k z => by cases z)⟩)
  · exact .inr h
end Own
namespace Own
open PySem PySem.Spec PyProof.Rows L2
/-! rows of a name and a part; bags -/
def RowP (C : Addr) (H : Hp) (t : Addr) (e : Str × Rat) : Prop := ∃ q, H t = some (.tup [.str e.1, .ref q]) ∧ PartR C H q e.2
theorem rowP_ext {C : Addr} {H H' : Hp} {ts : List Addr} {es : List (Str × Rat)} (h : Paired (RowP C H) ts es) (e : Ext H H') : Paired (RowP C H') ts es := pmono (fun t r z => by
  obtain ⟨q, z1, z2⟩ := z
  exact ⟨q, e _ _ z1, z2.ext e⟩) h
theorem PartR.offL {C d p : Addr} {H H' : Hp} {x : Rat} {xs : List V} (h : PartR C H p x) (hd : H d = some (.lst xs)) (e : Off d H H') : PartR C H' p x := by
  obtain ⟨q, h⟩ := h
  exact ⟨q, e _ _ h fun z => by rw [z, hd] at h; cases h⟩
theorem rowP_offL {C d : Addr} {H H' : Hp} {ts : List Addr} {es : List (Str × Rat)} {xs : List V} (h : Paired (RowP C H) ts es) (hd : H d = some (.lst xs)) (e : Off d H H') : Paired (RowP C H') ts es := pmono (fun t r z => by
  obtain ⟨q, z1, z2⟩ := z
  exact ⟨q, e _ _ z1 (fun y => by rw [y, hd] at z1; cases z1), z2.offL hd e⟩) h
/-- the parts of a bag: names and tuples -/
def TR (H : Hp) (kv : Key × V) (e : Str × Rat) : Prop := ∃ t, kv = (Sum.inr e.1, V.ref t) ∧ TupR H t e.2
theorem tr_ext {H H' : Hp} {kvs : List (Key × V)} {es : List (Str × Rat)} (h : Paired (TR H) kvs es) (e : Ext H H') : Paired (TR H') kvs es := pmono (fun kv r z => by
  obtain ⟨t, z1, z2⟩ := z
  exact ⟨t, z1, z2.ext e⟩) h
theorem tr_off {d : Addr} {H H' : Hp} {kvs ks : List (Key × V)} {es : List (Str × Rat)} (h : Paired (TR H) kvs es) (hd : H d = some (.dK ks)) (e : Off d H H') : Paired (TR H') kvs es := pmono (fun kv r z => by
  obtain ⟨t, z1, z2⟩ := z
  exact ⟨t, z1, z2.off hd e⟩) h
theorem tr_keys {H : Hp} : ∀ {kvs : List (Key × V)} {es : List (Str × Rat)}, Paired (TR H) kvs es → kvs.map (·.1) = (es.map (·.1)).map Sum.inr
  | _, _, .nil => rfl
  | _, _, .cons a b => by
    obtain ⟨t, h1, _⟩ := a
    rw [List.map_cons, List.map_cons, List.map_cons, tr_keys b, h1]
theorem inr_nodup {ns : List Str} (h : ns.Nodup) : (ns.map (Sum.inr : Str → Key)).Nodup := by
  rw [List.nodup_iff_pairwise_ne, List.pairwise_map]
  exact (List.nodup_iff_pairwise_ne.mp h).imp fun hne z => hne (Sum.inr.inj z)
theorem tr_uniq {H : Hp} {kvs : List (Key × V)} {es : List (Str × Rat)} (h : Paired (TR H) kvs es) (nd : (es.map (·.1)).Nodup) : Uniq kvs := by
  unfold Uniq
  rw [tr_keys h]
  exact inr_nodup nd
end Own
namespace Own
open PySem PySem.Spec PyProof.Rows L2
theorem none_back {H H' : Hp} {p : Addr} (e : Ext H H') (h : H' p = none) : H p = none := by
  cases z : H p with
  | none => rfl
  | some o => rw [e _ _ z] at h; cases h
theorem none_upd {H : Hp} {p q : Addr} {u : HO} (h : L2.upd H q u p = none) : H p = none := by
  by_cases z : p = q
  · rw [z, upd_same] at h
    cases h
  · rwa [upd_ne z] at h
theorem ne_of_new {H : Hp} {p q : Addr} {o : HO} (h : H p = none) (hq : H q = some o) : p ≠ q := fun z => by rw [z, hq] at h; cases h
end Own
namespace Own
open PySem PySem.Spec PyProof.Rows L2
theorem drawn2 {ds : List Int} {a b : Int} (h : Paired (fun d z => 0 ≤ d ∧ d < z) ds [a, b]) : ∃ v w : Int, ds = [v, w] ∧ (0 ≤ v ∧ v < a) ∧ (0 ≤ w ∧ w < b) := by
  cases h with
  | cons h1 h => cases h with
    | cons h2 h => cases h with
      | nil => exact ⟨_, _, rfl, h1, h2⟩
theorem pick3 {P : Int → Prop} {a b c k : Int} (h0 : 0 ≤ k) (h1 : k < 3) (ha : P a) (hb : P b) (hc : P c) : ∃ v, atI [V.int a, .int b, .int c] k = some (.int v) ∧ P v := by
  rcases (by omega : k = 0 ∨ k = 1 ∨ k = 2) with rfl | rfl | rfl
  · exact ⟨a, rfl, ha⟩
  · exact ⟨b, rfl, hb⟩
  · exact ⟨c, rfl, hc⟩
end Own

set_option Elab.async false
set_option maxRecDepth 100000
set_option maxHeartbeats 4000000
set_option linter.all false
/-! sums by name: rows in any order, and the one list of names that rise -/
namespace Own
open PySem PySem.Spec PyProof.Rows L2
/-! ### texts in order -/
def leS (a b : Str) : Prop := ltCps b.cps.toList a.cps.toList = false
theorem leS_iff {a b : Str} : leS a b ↔ a.cps.toList ≤ b.cps.toList := by
  unfold leS
  rw [ltCps_eq, decide_eq_false_iff_not]
  exact List.not_lt
theorem leS_trans {a b c : Str} (h : leS a b) (h2 : leS b c) : leS a c := leS_iff.mpr (List.le_trans (leS_iff.mp h) (leS_iff.mp h2))
theorem str_ext {a b : Str} (h : a.cps.toList = b.cps.toList) : a = b := by
  cases a
  cases b
  congr 1
  exact Array.toList_inj.mp h
theorem leS_anti {a b : Str} (h : leS a b) (h2 : leS b a) : a = b := str_ext (List.le_antisymm (leS_iff.mp h) (leS_iff.mp h2))
theorem rising_pw : ∀ {l : List Str} {p : Str}, risingS p l = true → (p :: l).Pairwise leS
  | [], p, _ => List.pairwise_singleton _ _
  | x :: r, p, h => by
    have h : (!ltCps x.cps.toList p.cps.toList && risingS x r) = true := h
    rw [Bool.and_eq_true, Bool.not_eq_true'] at h
    have ih := rising_pw h.2
    refine List.pairwise_cons.mpr ⟨fun y hy => ?_, ih⟩
    rcases List.mem_cons.mp hy with e | e
    · rw [e]
      exact h.1
    · exact leS_trans (b := x) h.1 ((List.pairwise_cons.mp ih).1 y e)
theorem sorted_pw : ∀ {l : List Str}, sortedS l = true → l.Pairwise leS
  | [], _ => List.Pairwise.nil
  | _ :: _, h => rising_pw h
/-- rising names of the same kind are the same -/
theorem names_eq {a b : List Str} (ha : a.Pairwise leS) (hb : b.Pairwise leS) (na : a.Nodup) (nb : b.Nodup) (h : ∀ n, n ∈ a ↔ n ∈ b) : a = b :=
  List.Perm.eq_of_pairwise (le := leS) (fun _ _ _ _ h1 h2 => leS_anti h1 h2) ha hb ((List.perm_ext_iff_of_nodup na nb).mpr h)
/-! ### sums by name -/
def val : List (Str × Rat) → Str → Rat
  | [], _ => 0
  | e :: es, n => (if e.1 = n then e.2 else 0) + val es n
theorem val_append {n : Str} : ∀ {a b : List (Str × Rat)}, val (a ++ b) n = val a n + val b n
  | [], b => (Rat.zero_add _).symm
  | e :: a, b => by
    show _ + val (a ++ b) n = _ + val a n + val b n
    rw [val_append, Rat.add_assoc]
theorem val_miss {n : Str} : ∀ {es : List (Str × Rat)}, n ∉ es.map (·.1) → val es n = 0
  | [], _ => rfl
  | e :: es, h => by
    show (if e.1 = n then e.2 else 0) + val es n = 0
    rw [if_neg fun z => h (List.mem_cons.mpr (.inl z.symm)), val_miss fun z => h (List.mem_cons_of_mem _ z), Rat.zero_add]
theorem val_mem {n : Str} : ∀ {es : List (Str × Rat)} {e : Str × Rat}, (es.map (·.1)).Nodup → e ∈ es → val es e.1 = e.2
  | [], _, _, h => absurd h List.not_mem_nil
  | f :: es, e, nd, h => by
    have nd := List.nodup_cons.mp nd
    show (if f.1 = e.1 then f.2 else 0) + val es e.1 = e.2
    rcases List.mem_cons.mp h with z | z
    · rw [z, if_pos rfl, val_miss (z ▸ nd.1), Rat.add_zero]
    · rw [if_neg fun y => nd.1 (List.mem_map.mpr ⟨e, z, y.symm⟩), Rat.zero_add]
      exact val_mem (n := n) nd.2 z
/-- rising names, each once, no nought -/
structure Canon (hs : List (Str × Rat)) : Prop where
  up : (hs.map (·.1)).Pairwise leS
  nd : (hs.map (·.1)).Nodup
  nz : ∀ e ∈ hs, e.2 ≠ 0
theorem Canon.nil : Canon [] := ⟨List.Pairwise.nil, List.nodup_nil, fun _ h => absurd h List.not_mem_nil⟩
theorem Canon.mem {hs : List (Str × Rat)} (h : Canon hs) {n : Str} : n ∈ hs.map (·.1) ↔ val hs n ≠ 0 := by
  constructor
  · intro hn
    obtain ⟨e, he, rfl⟩ := List.mem_map.mp hn
    rw [val_mem (n := e.1) h.nd he]
    exact h.nz e he
  · intro hn
    exact Classical.byContradiction fun z => hn (val_miss z)
theorem Canon.eq {hs gs : List (Str × Rat)} (h : Canon hs) (g : Canon gs) (e : ∀ n, val hs n = val gs n) : hs = gs := by
  have en : hs.map (·.1) = gs.map (·.1) := names_eq h.up g.up h.nd g.nd fun n => by rw [h.mem, g.mem, e n]
  have hm : ∀ {xs : List (Str × Rat)}, (xs.map (·.1)).Nodup → xs = (xs.map (·.1)).map fun n => (n, val xs n) := fun {xs} nd => by
    rw [List.map_map]
    conv => lhs; rw [← List.map_id xs]
    exact List.map_congr_left fun x hx => by
      show x = (x.1, val xs x.1)
      rw [val_mem (n := x.1) nd hx]
  rw [hm h.nd, hm g.nd, en]
  exact List.map_congr_left fun n _ => by rw [e n]
/-- what stays of rising names where the noughts go -/
theorem Canon.of {ys : List Str} (hs : ys.Pairwise leS) (nd : ys.Nodup) (f : Str → Option (Str × Rat)) (hf : ∀ n e, f n = some e → e.1 = n ∧ e.2 ≠ 0) : Canon (ys.filterMap f) := by
  have sub : ((ys.filterMap f).map (·.1)).Sublist ys := by
    clear hs nd
    induction ys with
    | nil => exact List.Sublist.refl _
    | cons y ys ih =>
      rw [List.filterMap_cons]
      cases e : f y with
      | none => exact ih.cons _
      | some x =>
        show (x.1 :: (ys.filterMap f).map (·.1)).Sublist (y :: ys)
        rw [(hf y x e).1]
        exact ih.cons₂ _
  refine ⟨hs.sublist sub, nd.sublist sub, fun e he => ?_⟩
  obtain ⟨n, _, h⟩ := List.mem_filterMap.mp he
  exact (hf n e h).2
/-- a sum of few digits -/
theorem val_sz {n : Str} {b : Nat} : ∀ {es : List (Str × Rat)}, (∀ e ∈ es, Sz e.2 b) → Sz (val es n) (1 + es.length * (b + 1))
  | [], _ => ⟨by show (0 : Rat).num.natAbs < _; exact Nat.lt_of_lt_of_le (show (0 : Rat).num.natAbs < 2 ^ 1 by decide +kernel) (Nat.pow_le_pow_right (by decide) (by omega)), by show (0 : Rat).den < _; exact Nat.lt_of_lt_of_le (show (0 : Rat).den < 2 ^ 1 by decide +kernel) (Nat.pow_le_pow_right (by decide) (by omega))⟩
  | e :: es, h => by
    have ih := val_sz (n := n) fun x hx => h x (List.mem_cons_of_mem _ hx)
    have he := h e List.mem_cons_self
    show Sz ((if e.1 = n then e.2 else 0) + val es n) _
    rw [List.length_cons]
    split
    · refine (he.add ih).mono ?_
      rw [Nat.succ_mul]
      omega
    · rw [Rat.zero_add]
      refine ih.mono ?_
      rw [Nat.succ_mul]
      omega
theorem Canon.sz {hs : List (Str × Rat)} (h : Canon hs) {es : List (Str × Rat)} {b : Nat} (e : ∀ n, val hs n = val es n) (hb : ∀ x ∈ es, Sz x.2 b) : ∀ x ∈ hs, Sz x.2 (1 + es.length * (b + 1)) := fun x hx => by
  rw [← val_mem (n := x.1) h.nd hx, e]
  exact val_sz hb
/-- one more, summed by its name -/
def addR : List (Str × Rat) → Str → Rat → List (Str × Rat)
  | [], n, x => [(n, x)]
  | e :: es, n, x => if e.1 = n then (n, e.2 + x) :: es else e :: addR es n x
theorem val_addR {n m : Str} {x : Rat} : ∀ {es : List (Str × Rat)}, val (addR es n x) m = val es m + (if n = m then x else 0)
  | [] => by
    show (if n = m then x else 0) + 0 = 0 + _
    rw [Rat.zero_add, Rat.add_zero]
  | e :: es => by
    show val (if e.1 = n then (n, e.2 + x) :: es else e :: addR es n x) m = ((if e.1 = m then e.2 else 0) + val es m) + _
    by_cases h : e.1 = n
    · rw [if_pos h]
      show (if n = m then e.2 + x else 0) + val es m = _
      rw [h]
      by_cases g : n = m
      · rw [if_pos g, if_pos g, if_pos g]
        grind
      · rw [if_neg g, if_neg g, if_neg g]
        grind
    · rw [if_neg h]
      show (if e.1 = m then e.2 else 0) + val (addR es n x) m = _
      rw [val_addR, Rat.add_assoc]
theorem addR_names {n : Str} {x : Rat} : ∀ {es : List (Str × Rat)}, (∀ m ∈ (addR es n x).map (·.1), m = n ∨ m ∈ es.map (·.1)) ∧ ((es.map (·.1)).Nodup → ((addR es n x).map (·.1)).Nodup)
  | [] => ⟨fun m hm => .inl (List.mem_singleton.mp hm), fun _ => by
    show [n].Nodup
    simp⟩
  | e :: es => by
    have ih := addR_names (n := n) (x := x) (es := es)
    by_cases h : e.1 = n
    · have e1 : (addR (e :: es) n x).map (·.1) = (e :: es).map (·.1) := by
        show List.map (·.1) (if e.1 = n then (n, e.2 + x) :: es else e :: addR es n x) = _
        rw [if_pos h]
        show n :: _ = e.1 :: _
        rw [h]
      rw [e1]
      exact ⟨fun m hm => .inr hm, id⟩
    · have e1 : (addR (e :: es) n x).map (·.1) = e.1 :: (addR es n x).map (·.1) := by
        show List.map (·.1) (if e.1 = n then (n, e.2 + x) :: es else e :: addR es n x) = _
        rw [if_neg h]
        rfl
      rw [e1]
      refine ⟨fun m hm => ?_, fun nd => ?_⟩
      · rcases List.mem_cons.mp hm with z | z
        · exact .inr (z ▸ List.mem_cons_self)
        · rcases ih.1 m z with z | z
          · exact .inl z
          · exact .inr (List.mem_cons_of_mem _ z)
      · have nd := List.nodup_cons.mp nd
        refine List.nodup_cons.mpr ⟨fun z => ?_, ih.2 nd.2⟩
        rcases ih.1 _ z with z | z
        · exact h z
        · exact nd.1 z
theorem addR_len {n : Str} {x : Rat} : ∀ {es : List (Str × Rat)}, (addR es n x).length ≤ es.length + 1
  | [] => Nat.le_refl _
  | e :: es => by
    have := addR_len (n := n) (x := x) (es := es)
    show (if e.1 = n then (n, e.2 + x) :: es else e :: addR es n x).length ≤ _
    split
    · simp
    · simp only [List.length_cons]
      omega
theorem addR_miss {n : Str} {x : Rat} : ∀ {es : List (Str × Rat)}, n ∉ es.map (·.1) → addR es n x = es ++ [(n, x)]
  | [], _ => rfl
  | e :: es, hn => by
    have h1 : ¬ e.1 = n := fun z => hn (List.mem_cons.mpr (.inl z.symm))
    show (if e.1 = n then (n, e.2 + x) :: es else e :: addR es n x) = _
    rw [if_neg h1, addR_miss fun z => hn (List.mem_cons_of_mem _ z)]
    rfl
end Own
namespace Own
open PySem PySem.Spec PyProof.Rows L2
/-! ### dicts of names whose values are sums -/
def Ent (R : Addr → Rat → Prop) (kv : Key × V) (e : Str × Rat) : Prop := ∃ q, kv = (Sum.inr e.1, V.ref q) ∧ R q e.2
section
variable {R R' : Addr → Rat → Prop} {kvs : List (Key × V)} {es : List (Str × Rat)} {n : Str} {x : Rat}
theorem ent_mono (h : Paired (Ent R) kvs es) (m : ∀ q z, R q z → R' q z) : Paired (Ent R') kvs es := pmono (fun _ _ z => by
  obtain ⟨q, z1, z2⟩ := z
  exact ⟨q, z1, m _ _ z2⟩) h
theorem ent_keys : ∀ {kvs : List (Key × V)} {es : List (Str × Rat)}, Paired (Ent R) kvs es → kvs.map (·.1) = (es.map (·.1)).map Sum.inr
  | _, _, .nil => rfl
  | _, _, .cons a b => by
    obtain ⟨t, h1, _⟩ := a
    rw [List.map_cons, List.map_cons, List.map_cons, ent_keys b, h1]
theorem ent_uniq (h : Paired (Ent R) kvs es) (nd : (es.map (·.1)).Nodup) : Uniq kvs := by
  unfold Uniq
  rw [ent_keys h]
  exact inr_nodup nd
theorem ent_miss : ∀ {kvs : List (Key × V)} {es : List (Str × Rat)}, Paired (Ent R) kvs es → n ∉ es.map (·.1) → ∀ kv ∈ kvs, ¬ kv.1 = Sum.inr n
  | _, _, .nil, _, kv, hk => absurd hk List.not_mem_nil
  | _, _, .cons a b, hn, kv, hk => by
    rcases List.mem_cons.mp hk with e | e
    · obtain ⟨t, h1, _⟩ := a
      rw [e, h1]
      intro z
      exact hn (List.mem_cons.mpr (.inl (Sum.inr.inj z).symm))
    · exact ent_miss b (fun z => hn (List.mem_cons_of_mem _ z)) kv e
theorem val_none {kvs : List (Key × V)} {k : Key} (h : ∀ kv ∈ kvs, ¬ kv.1 = k) : valV kvs k = none := by
  unfold valV
  rw [List.find?_eq_none.mpr fun kv hkv => by simpa using h kv hkv]
  rfl
theorem put_new {kvs : List (Key × V)} {k : Key} {v : V} (h : ∀ kv ∈ kvs, ¬ kv.1 = k) : putK kvs k v = kvs ++ [(k, v)] := L2.putK_new v (val_none h)
theorem ent_get : ∀ {kvs : List (Key × V)} {es : List (Str × Rat)} {e : Str × Rat}, Paired (Ent R) kvs es → (es.map (·.1)).Nodup → e ∈ es → ∃ q, valV kvs (Sum.inr e.1) = some (V.ref q) ∧ R q e.2
  | _, _, e, .nil, _, hn => absurd hn List.not_mem_nil
  | kv :: kvs, e0 :: es, e, .cons a b, nd, hn => by
    have nd := List.nodup_cons.mp nd
    obtain ⟨t, h1, h2⟩ := a
    rcases List.mem_cons.mp hn with z | z
    · exact ⟨t, by rw [valV_pos (by rw [h1, z]), h1], z ▸ h2⟩
    · obtain ⟨q, g1, g2⟩ := ent_get b nd.2 z
      refine ⟨q, ?_, g2⟩
      rw [valV_neg]
      · exact g1
      · rw [h1]
        intro y
        exact nd.1 (List.mem_map.mpr ⟨e, z, (Sum.inr.inj y).symm⟩)
theorem ent_put_new (h : Paired (Ent R) kvs es) (hn : n ∉ es.map (·.1)) {r : Addr} (hr : R r x) : Paired (Ent R) (putK kvs (Sum.inr n) (V.ref r)) (addR es n x) := by
  rw [put_new (ent_miss h hn), addR_miss hn]
  exact Paired.snoc h ⟨r, rfl, hr⟩
theorem map_same {v : V} {kvs : List (Key × V)} (h : ∀ kv ∈ kvs, ¬ kv.1 = Sum.inr n) : kvs.map (fun kv => if kv.1 = Sum.inr n then (kv.1, v) else kv) = kvs := by
  conv => rhs; rw [← List.map_id kvs]
  exact List.map_congr_left fun kv hk => if_neg (h kv hk)
theorem ent_map : ∀ {kvs : List (Key × V)} {es : List (Str × Rat)} {x0 : Rat}, Paired (Ent R) kvs es → (es.map (·.1)).Nodup → (n, x0) ∈ es → ∀ {r : Addr}, R r (x0 + x) →
    Paired (Ent R) (kvs.map fun kv => if kv.1 = Sum.inr n then (kv.1, V.ref r) else kv) (addR es n x)
  | _, _, _, .nil, _, hn, _, _ => absurd hn List.not_mem_nil
  | kv :: kvs, e :: es, x0, .cons a b, nd, hn, r, hr => by
    have nd := List.nodup_cons.mp nd
    obtain ⟨t, h1, h2⟩ := a
    rcases List.mem_cons.mp hn with z | z
    · have hk : kv.1 = Sum.inr n := by rw [h1, ← z]
      have he : e.1 = n := by rw [← z]
      have hm : n ∉ es.map (·.1) := he ▸ nd.1
      rw [List.map_cons, if_pos hk, map_same (ent_miss b hm)]
      show Paired _ _ (if e.1 = n then (n, e.2 + x) :: es else e :: addR es n x)
      rw [if_pos he]
      exact .cons ⟨r, by rw [hk], by rw [← z]; exact hr⟩ b
    · have he : ¬ e.1 = n := fun y => nd.1 (List.mem_map.mpr ⟨(n, x0), z, y.symm⟩)
      have hk : ¬ kv.1 = Sum.inr n := by
        rw [h1]
        exact fun y => he (Sum.inr.inj y)
      rw [List.map_cons, if_neg hk]
      show Paired _ _ (if e.1 = n then (n, e.2 + x) :: es else e :: addR es n x)
      rw [if_neg he]
      exact .cons ⟨t, h1, h2⟩ (ent_map b nd.2 z hr)
theorem ent_put_old {x0 : Rat} (h : Paired (Ent R) kvs es) (nd : (es.map (·.1)).Nodup) (hn : (n, x0) ∈ es) {r : Addr} (hr : R r (x0 + x)) : Paired (Ent R) (putK kvs (Sum.inr n) (V.ref r)) (addR es n x) := by
  have hin : (kvs.any fun kv => decide (kv.1 = Sum.inr n)) = true := by
    obtain ⟨q, hq, _⟩ := ent_get h nd hn
    rw [valV_any, hq]
    rfl
  unfold putK
  rw [if_pos hin]
  exact ent_map h nd hn hr
end
/-- rows summed by their names -/
def sums (rs : List (Str × Rat)) : List (Str × Rat) := rs.foldl (fun es e => addR es e.1 e.2) []
theorem sums_snoc {rs : List (Str × Rat)} {e : Str × Rat} : sums (rs ++ [e]) = addR (sums rs) e.1 e.2 := by
  unfold sums
  rw [List.foldl_append]
  rfl
theorem sums_val' {n : Str} : ∀ {rs es : List (Str × Rat)}, val (rs.foldl (fun es e => addR es e.1 e.2) es) n = val es n + val rs n
  | [], es => (Rat.add_zero _).symm
  | e :: rs, es => by
    show val (rs.foldl _ (addR es e.1 e.2)) n = val es n + ((if e.1 = n then e.2 else 0) + val rs n)
    rw [sums_val', val_addR, Rat.add_assoc]
theorem sums_val {n : Str} {rs : List (Str × Rat)} : val (sums rs) n = val rs n := by
  unfold sums
  rw [sums_val']
  exact Rat.zero_add _
theorem sums_nd' : ∀ {rs es : List (Str × Rat)}, (es.map (·.1)).Nodup → ((rs.foldl (fun es e => addR es e.1 e.2) es).map (·.1)).Nodup
  | [], _, h => h
  | e :: rs, es, h => sums_nd' (rs := rs) (es := addR es e.1 e.2) (addR_names.2 h)
theorem sums_nd {rs : List (Str × Rat)} : ((sums rs).map (·.1)).Nodup := sums_nd' List.nodup_nil
theorem sums_len' : ∀ {rs es : List (Str × Rat)}, (rs.foldl (fun es e => addR es e.1 e.2) es).length ≤ es.length + rs.length
  | [], _ => Nat.le_refl _
  | e :: rs, es => by
    have h := sums_len' (rs := rs) (es := addR es e.1 e.2)
    have := addR_len (n := e.1) (x := e.2) (es := es)
    show (rs.foldl _ (addR es e.1 e.2)).length ≤ es.length + (rs.length + 1)
    omega
theorem sums_len {rs : List (Str × Rat)} : (sums rs).length ≤ rs.length := by
  have := sums_len' (rs := rs) (es := [])
  unfold sums
  simpa using this
theorem sums_sz {rs : List (Str × Rat)} {b : Nat} (h : ∀ e ∈ rs, Sz e.2 b) : ∀ e ∈ sums rs, Sz e.2 (1 + rs.length * (b + 1)) := fun e he => by
  rw [← val_mem (n := e.1) sums_nd he, sums_val]
  exact val_sz h
/-- the one that stands under a name, if it is no nought -/
def pick (es : List (Str × Rat)) (y : Str) : Option (Str × Rat) := if val es y = 0 then none else some (y, val es y)
theorem pick_canon {ys : List Str} {es : List (Str × Rat)} (h : sortedS ys = true) (nd : ys.Nodup) : Canon (ys.filterMap (pick es)) := Canon.of (sorted_pw h) nd _ fun n e he => by
  unfold pick at he
  split at he
  · cases he
  · cases he
    exact ⟨rfl, by assumption⟩
theorem pick_val {ys : List Str} {es : List (Str × Rat)} (nd : ys.Nodup) (hm : ∀ n, val es n ≠ 0 → n ∈ ys) (n : Str) : val (ys.filterMap (pick es)) n = val es n := by
  have key : ∀ {ys : List Str}, ys.Nodup → val (ys.filterMap (pick es)) n = if n ∈ ys then val es n else 0 := by
    intro ys nd
    induction ys with
    | nil => rfl
    | cons y ys ih =>
      have nd := List.nodup_cons.mp nd
      rw [List.filterMap_cons]
      unfold pick at ih ⊢
      by_cases h0 : val es y = 0
      · rw [if_pos h0]
        show val (List.filterMap _ ys) n = _
        rw [ih nd.2]
        by_cases e : n = y
        · rw [e, if_neg nd.1, if_pos List.mem_cons_self, h0]
        · have : n ∈ y :: ys ↔ n ∈ ys := by rw [List.mem_cons]; exact ⟨fun z => z.resolve_left e, .inr⟩
          simp only [this]
      · rw [if_neg h0]
        show (if y = n then val es y else 0) + val (List.filterMap _ ys) n = _
        rw [ih nd.2]
        by_cases e : y = n
        · rw [if_pos e, ← e, if_neg nd.1, if_pos List.mem_cons_self, Rat.add_zero]
        · have : n ∈ y :: ys ↔ n ∈ ys := by rw [List.mem_cons]; exact ⟨fun z => z.resolve_left fun w => e w.symm, .inr⟩
          rw [if_neg e, Rat.zero_add]
          simp only [this]
  rw [key nd]
  split
  · rfl
  · rename_i h
    exact (Classical.byContradiction fun z => h (hm n fun w => z w.symm))
end Own
namespace Own
open PySem PySem.Spec PyProof.Rows L2
/-! ### a Purse: p, its dict d, what it holds -/
def PurD (C CP : Addr) (H : Hp) (p d : Addr) (hs : List (Str × Rat)) : Prop := ∃ dx kvs, H p = some (.ins C dx [("_held", .ref d)]) ∧ H d = some (.dK kvs) ∧ Paired (Ent (PartR CP H)) kvs hs
theorem PurD.ext {C CP : Addr} {H H' : Hp} {p d : Addr} {hs : List (Str × Rat)} (h : PurD C CP H p d hs) (e : Ext H H') : PurD C CP H' p d hs := by
  obtain ⟨dx, kvs, h1, h2, h3⟩ := h
  exact ⟨dx, kvs, e _ _ h1, e _ _ h2, ent_mono h3 fun _ _ z => z.ext e⟩
theorem PurD.off {C CP : Addr} {H H' : Hp} {p d c : Addr} {hs : List (Str × Rat)} {ks : List (Key × V)} (h : PurD C CP H p d hs) (hd : d ≠ c) (hc : H c = some (.dK ks)) (e : Off c H H') : PurD C CP H' p d hs := by
  obtain ⟨dx, kvs, h1, h2, h3⟩ := h
  exact ⟨dx, kvs, e _ _ h1 (fun z => by rw [z, hc] at h1; cases h1), e _ _ h2 hd, ent_mono h3 fun _ _ z => z.off hc e⟩
theorem PurD.offL {C CP : Addr} {H H' : Hp} {p d c : Addr} {hs : List (Str × Rat)} {xs : List V} (h : PurD C CP H p d hs) (hc : H c = some (.lst xs)) (e : Off c H H') : PurD C CP H' p d hs := by
  obtain ⟨dx, kvs, h1, h2, h3⟩ := h
  exact ⟨dx, kvs, e _ _ h1 (fun z => by rw [z, hc] at h1; cases h1), e _ _ h2 (fun z => by rw [z, hc] at h2; cases h2), ent_mono h3 fun _ _ z => z.offL hc e⟩
theorem held_no {m : Str} {v : V} (h : ¬ m = "_held") : List.lookup m [((Str.ofString "_held" : Str), v)] = none := by
  rw [List.lookup_cons, show (m == Str.ofString "_held") = false from beq_eq_false_iff_ne.mpr h]
  rfl
theorem held_yes {v : V} : List.lookup (Str.ofString "_held") [((Str.ofString "_held" : Str), v)] = some v := by simp [List.lookup]
theorem catTK {X : Cx} {K : PySem.W.Frag} (h : X.K = K) : OpR X (binaryOp .Add) (rCatT K) := h ▸ op_catT
/-- a row's cell: name, top, low -/
def Row3 (H : Hp) (t : Addr) (e : Str × Rat) : Prop := H t = some (.tup [.str e.1, .int e.2.num, .int e.2.den])
def row3D (e : Str × Rat) : PyData := .tuple [.str e.1, .int e.2.num, .int e.2.den]
/-- a list of such rows -/
def Rows3 (H : Hp) (p : Addr) (es : List (Str × Rat)) : Prop := ∃ ts : List Addr, H p = some (.lst (ts.map V.ref)) ∧ Paired (Row3 H) ts es
theorem row3_ext {H H' : Hp} {ts : List Addr} {es : List (Str × Rat)} (h : Paired (Row3 H) ts es) (e : Ext H H') : Paired (Row3 H') ts es := pmono (fun _ _ z => e _ _ z) h
theorem row3_offL {d : Addr} {H H' : Hp} {ts : List Addr} {es : List (Str × Rat)} {xs : List V} (h : Paired (Row3 H) ts es) (hd : H d = some (.lst xs)) (e : Off d H H') : Paired (Row3 H') ts es := pmono (fun _ _ z => e _ _ z fun y => by
  rw [y, hd] at z
  cases z) h
theorem Rows3.ext {H H' : Hp} {p : Addr} {es : List (Str × Rat)} (h : Rows3 H p es) (e : Ext H H') : Rows3 H' p es := by
  obtain ⟨ts, h1, h2⟩ := h
  exact ⟨ts, e _ _ h1, row3_ext h2 e⟩
theorem row3_dp {K : PySem.W.Frag} {H : Hp} : ∀ {ts : List Addr} {es : List (Str × Rat)}, Paired (Row3 H) ts es → DpAll K H (ts.map V.ref) (es.map row3D)
  | _, _, .nil => .nil
  | _, _, .cons a b => .cons (.tup (ofT a) (.cons (.str _) (.cons (.int _) (.cons (.int _) .nil)))) (row3_dp b)
theorem Rows3.dp {K : PySem.W.Frag} {H : Hp} {p : Addr} {es : List (Str × Rat)} (h : Rows3 H p es) : Dp K H (.ref p) (.list (es.map row3D)) := by
  obtain ⟨ts, h1, h2⟩ := h
  exact .lst (ofL h1) (row3_dp h2)
theorem Mild.frac {x : Rat} (h : Sz x 1900) : Mild (.tuple [.int x.num, .int x.den]) 4000 1 := by
  refine (Mild.tuple (n := 1921) (k := 0) (m := 2) (fun d hd => ?_) (Nat.le_refl _)).mono (by decide) (Nat.le_refl _)
  rcases List.mem_cons.mp hd with e | e
  · rw [e]
    exact Mild.int (log2_of (Nat.lt_of_lt_of_le h.n (Nat.pow_le_pow_right (by decide) (by decide))))
  · rw [List.mem_singleton.mp e]
    exact Mild.int (log2_of (Nat.lt_of_lt_of_le h.d (Nat.pow_le_pow_right (by decide) (by decide))))
theorem Mild.row3 {e : Str × Rat} {n : Nat} (a : Small e.1 n) (hn : n ≤ 100) (h : Sz e.2 1900) : Mild (row3D e) 6000 1 := by
  refine (Mild.tuple (n := 1921) (k := 0) (m := 3) (fun d hd => ?_) (Nat.le_refl _)).mono (by decide) (Nat.le_refl _)
  rcases List.mem_cons.mp hd with e | e
  · rw [e]
    exact (Mild.str a).mono (by omega) (Nat.le_refl _)
  · rcases List.mem_cons.mp e with e | e
    · rw [e]
      exact Mild.int (log2_of (Nat.lt_of_lt_of_le h.n (Nat.pow_le_pow_right (by decide) (by decide))))
    · rw [List.mem_singleton.mp e]
      exact Mild.int (log2_of (Nat.lt_of_lt_of_le h.d (Nat.pow_le_pow_right (by decide) (by decide))))
theorem Mild.rows3 {es : List (Str × Rat)} (h : ∀ e ∈ es, (∃ n, Small e.1 n ∧ n ≤ 100) ∧ Sz e.2 1900) (hl : es.length ≤ 1000) : Mild (.list (es.map row3D)) 7000000 2 :=
  (Mild.list (n := 6000) (k := 1) (m := 1000) (fun d hd => by
    obtain ⟨e, he, rfl⟩ := List.mem_map.mp hd
    obtain ⟨⟨n, h1, h2⟩, h3⟩ := h e he
    exact Mild.row3 h1 h2 h3) (by rw [List.length_map]; exact hl)).mono (by decide) (Nat.le_refl _)
end Own
namespace Own
open PySem PySem.Spec PyProof.Rows L2
theorem pcomp {α β γ : Type} {F : α → β → Prop} {G : β → γ → Prop} {R : α → γ → Prop} (h : ∀ x y z, F x y → G y z → R x z) : ∀ {xs : List α} {ys : List β} {zs : List γ}, Paired F xs ys → Paired G ys zs → Paired R xs zs
  | _, _, _, .nil, .nil => .nil
  | _, _, _, .cons a b, .cons c d => .cons (h _ _ _ a c) (pcomp h b d)
theorem papp {α β : Type} {F : α → β → Prop} : ∀ {xs xs' : List α} {ys ys' : List β}, Paired F xs ys → Paired F xs' ys' → Paired F (xs ++ xs') (ys ++ ys')
  | _, _, _, _, .nil, h => h
  | _, _, _, _, .cons a b, h => .cons a (papp b h)
/-- each sum times x -/
def timesL (x : Rat) (es : List (Str × Rat)) : List (Str × Rat) := es.map fun e => (e.1, e.2 * x)
theorem val_times {x : Rat} {n : Str} : ∀ {es : List (Str × Rat)}, val (timesL x es) n = val es n * x
  | [] => (Rat.zero_mul x).symm
  | e :: es => by
    show (if e.1 = n then e.2 * x else 0) + val (timesL x es) n = ((if e.1 = n then e.2 else 0) + val es n) * x
    rw [val_times, Rat.add_mul]
    split
    · rfl
    · rw [Rat.zero_mul]
/-- equal lists of rising names: as many, and each sum the same -/
theorem canon_all {hs gs : List (Str × Rat)} (h : Canon hs) (g : Canon gs) : (decide (hs.length = gs.length) && hs.all fun x => decide (val gs x.1 = x.2)) = decide (hs = gs) := by
  by_cases e : hs = gs
  · subst e
    rw [decide_eq_true rfl, decide_eq_true rfl, Bool.true_and, List.all_eq_true]
    exact fun x hx => decide_eq_true (val_mem (n := x.1) h.nd hx)
  · rw [decide_eq_false e, Bool.and_eq_false_iff]
    refine Classical.byContradiction fun z => e (h.eq g fun n => ?_)
    rw [not_or, Bool.not_eq_false, Bool.not_eq_false] at z
    have hl := of_decide_eq_true z.1
    have ha := List.all_eq_true.mp z.2
    have hv : ∀ x ∈ hs, val gs x.1 = x.2 := fun x hx => of_decide_eq_true (ha x hx)
    by_cases hn : n ∈ hs.map (·.1)
    · obtain ⟨x, hx, rfl⟩ := List.mem_map.mp hn
      rw [val_mem (n := x.1) h.nd hx, hv x hx]
    · rw [val_miss hn]
      refine (Classical.byContradiction fun y => ?_ : (0 : Rat) = val gs n)
      have hg : n ∈ gs.map (·.1) := g.mem.mpr fun w => y w.symm
      have hsub : n :: hs.map (·.1) ⊆ gs.map (·.1) := fun m hm => by
        rcases List.mem_cons.mp hm with w | w
        · exact w ▸ hg
        · obtain ⟨x, hx, rfl⟩ := List.mem_map.mp w
          exact g.mem.mpr fun u => h.nz x hx (by rw [← hv x hx, u])
      have := nodup_le (List.nodup_cons.mpr ⟨hn, h.nd⟩) hsub
      rw [List.length_cons, List.length_map, List.length_map] at this
      omega
/-- what is poured into a bag -/
def pour (x : Rat) (es fs : List (Str × Rat)) : List (Str × Rat) := fs.foldl (fun es e => addR es e.1 (e.2 * x)) es
theorem pour_snoc {x : Rat} {es fs : List (Str × Rat)} {e : Str × Rat} : pour x es (fs ++ [e]) = addR (pour x es fs) e.1 (e.2 * x) := by
  unfold pour
  rw [List.foldl_append]
  rfl
theorem pour_val {x : Rat} {n : Str} : ∀ {fs es : List (Str × Rat)}, val (pour x es fs) n = val es n + val fs n * x
  | [], es => by
    show val es n = val es n + 0 * x
    rw [Rat.zero_mul, Rat.add_zero]
  | e :: fs, es => by
    show val (pour x (addR es e.1 (e.2 * x)) fs) n = val es n + ((if e.1 = n then e.2 else 0) + val fs n) * x
    rw [pour_val, val_addR, Rat.add_mul, Rat.add_assoc]
    split
    · rfl
    · rw [Rat.zero_mul]
theorem pour_nd {x : Rat} : ∀ {fs es : List (Str × Rat)}, (es.map (·.1)).Nodup → ((pour x es fs).map (·.1)).Nodup
  | [], _, h => h
  | e :: fs, es, h => pour_nd (fs := fs) (es := addR es e.1 (e.2 * x)) (addR_names.2 h)
theorem pour_len {x : Rat} : ∀ {fs es : List (Str × Rat)}, (pour x es fs).length ≤ es.length + fs.length
  | [], _ => Nat.le_refl _
  | e :: fs, es => by
    have h := pour_len (x := x) (fs := fs) (es := addR es e.1 (e.2 * x))
    have := addR_len (n := e.1) (x := e.2 * x) (es := es)
    show (pour x (addR es e.1 (e.2 * x)) fs).length ≤ es.length + (fs.length + 1)
    omega
theorem addR_mem {n : Str} {x : Rat} {e : Str × Rat} : ∀ {es : List (Str × Rat)}, e ∈ addR es n x → e ∈ es ∨ e = (n, x) ∨ ∃ y, (n, y) ∈ es ∧ e = (n, y + x)
  | [], h => .inr (.inl (List.mem_singleton.mp h))
  | f :: es, h => by
    have h : e ∈ (if f.1 = n then (n, f.2 + x) :: es else f :: addR es n x) := h
    split at h
    · rename_i hf
      rcases List.mem_cons.mp h with h | h
      · exact .inr (.inr ⟨f.2, hf ▸ List.mem_cons_self, h⟩)
      · exact .inl (List.mem_cons_of_mem _ h)
    · rcases List.mem_cons.mp h with h | h
      · exact .inl (h ▸ List.mem_cons_self)
      · rcases addR_mem h with h | h | ⟨y, h, e2⟩
        · exact .inl (List.mem_cons_of_mem _ h)
        · exact .inr (.inl h)
        · exact .inr (.inr ⟨y, List.mem_cons_of_mem _ h, e2⟩)
/-- a law's bag: names of the list, once each, sums of few digits -/
structure Bg (es : List (Str × Rat)) (zs : List Str) (m b : Nat) : Prop where
  nd : (es.map (·.1)).Nodup
  ln : es.length ≤ m
  nm : ∀ e ∈ es, e.1 ∈ zs
  sz : ∀ e ∈ es, Sz e.2 b
theorem Bg.nil {zs : List Str} : Bg [] zs 0 0 := ⟨List.nodup_nil, Nat.le_refl _, fun _ h => absurd h List.not_mem_nil, fun _ h => absurd h List.not_mem_nil⟩
theorem Bg.mono {es : List (Str × Rat)} {zs : List Str} {m b m' b' : Nat} (h : Bg es zs m b) (hm : m ≤ m') (hb : b ≤ b') : Bg es zs m' b' := ⟨h.nd, Nat.le_trans h.ln hm, h.nm, fun e he => (h.sz e he).mono hb⟩
theorem Bg.add {es : List (Str × Rat)} {zs : List Str} {m b c : Nat} {n : Str} {x : Rat} (h : Bg es zs m b) (hn : n ∈ zs) (hx : Sz x c) : Bg (addR es n x) zs (m + 1) (b + c + 1) := by
  refine ⟨addR_names.2 h.nd, ?_, fun e he => ?_, fun e he => ?_⟩
  · have := addR_len (n := n) (x := x) (es := es)
    have := h.ln
    omega
  · rcases addR_mem he with h2 | h2 | ⟨y, _, e2⟩
    · exact h.nm e h2
    · rw [h2]
      exact hn
    · rw [e2]
      exact hn
  · rcases addR_mem he with h2 | h2 | ⟨y, h2, e2⟩
    · exact (h.sz e h2).mono (by omega)
    · rw [h2]
      exact hx.mono (by omega)
    · rw [e2]
      exact ((h.sz _ h2).add hx).mono (by omega)
end Own
namespace Own
open PySem PySem.Spec PyProof.Rows L2
theorem pour_nm {x : Rat} {zs : List Str} : ∀ {fs es : List (Str × Rat)}, (∀ e ∈ es, e.1 ∈ zs) → (∀ e ∈ fs, e.1 ∈ zs) → ∀ e ∈ pour x es fs, e.1 ∈ zs
  | [], _, h1, _, e, he => h1 e he
  | f :: fs, es, h1, h2, e, he => pour_nm (fs := fs) (es := addR es f.1 (f.2 * x)) (fun y hy => by
      rcases addR_mem hy with h | h | ⟨_, _, e2⟩
      · exact h1 y h
      · rw [h]
        exact h2 f List.mem_cons_self
      · rw [e2]
        exact h2 f List.mem_cons_self) (fun y hy => h2 y (List.mem_cons_of_mem _ hy)) e he
end Own
namespace Own
open PySem PySem.Spec PyProof.Rows L2
theorem lenK {X : Cx} {K : PySem.W.Frag} (h : X.K = K) : CallR X (.builtin "len") (fun xs H Q => ∃ p ys, xs = [.ref p] ∧ (SqL K H p ys ∨ SqT K H p ys) ∧ Q (.int ys.length) H) := h ▸ call_len_seq
end Own
namespace Own
open PySem PySem.Spec PyProof.Rows L2
theorem ptake {α β : Type} {F : α → β → Prop} : ∀ {xs : List α} {ys : List β}, Paired F xs ys → ∀ n, Paired F (xs.take n) (ys.take n)
  | _, _, .nil, n => by simpa using Paired.nil
  | _, _, .cons _ _, 0 => .nil
  | _, _, .cons a b, n + 1 => .cons a (ptake b n)
end Own

set_option Elab.async false
set_option maxRecDepth 100000
set_option maxHeartbeats 4000000
set_option linter.all false
/-! dicts held against one another, their values by a def of the text -/
namespace Own
open PySem PySem.Spec PyProof.Rows L2
section
variable {prog : Program} {w : World} {κ : Type} [DecidableEq κ] {knd : KeyKind prog w κ} {A : Around} {E : Value → Shared → Prop} {s : Shared}
theorem refs_bool {p q : Addr} {Q : Bool → Shared → Prop} (hne : p ≠ q) (h : wpAny (model prog w) A (richCompare .Eq (.ref p) (.ref q)) (fun v t => ∃ e, v = .bool e ∧ Q e t) E s) : wpAny (model prog w) A (eqBool (.ref p) (.ref q)) Q E s := by
  unfold eqBool
  refine wpAny_holding (wpAny_ite_split (fun same => absurd (Value.ref.inj (eq_of_beq same)) hne) fun _ => wpAny_bind (wpAny_mono h (fun v t hv => ?_) fun _ _ z => z))
  obtain ⟨e, rfl, q⟩ := hv
  exact wpAny_truthy_bool q
theorem refs_same {p : Addr} {Q : Bool → Shared → Prop} (h : Q true s) : wpAny (model prog w) A (eqBool (.ref p) (.ref p)) Q E s := by
  unfold eqBool
  refine wpAny_holding (wpAny_ite_split (fun _ => ?_) fun z => absurd (beq_self_eq_true (Value.ref p)) z)
  exact wpAny_bind (wpAny_rule (wpAny_pure h))
/-- one pair after the other; the heap may grow on the way -/
theorem pairs_run {nm : String} {a b : Addr} {o1 o2 : Obj} {es fs : Array DictEntry} {p1 p2 : Nat} {ka kb : List (κ × Value)} {J : List (κ × Value) → Shared → Prop} {Q : Bool → Shared → Prop} (sa : (a == sysModules) = false) (sb : (b == sysModules) = false)
    (c1 : s.heap.get? a = some o1) (d1 : o1.data = .dict es p1) (k1 : KeysOf knd es) (r1 : Pairs knd es.toList ka) (c2 : s.heap.get? b = some o2) (d2 : o2.data = .dict fs p2) (k2 : KeysOf knd fs) (r2 : Pairs knd fs.toList kb)
    (kept : ∀ r t, J r t → t.heap.get? a = some o1 ∧ t.heap.get? b = some o2) (differ : ka.length ≠ kb.length → Q false s) (start : ka.length = kb.length → J ka s) (stop : ∀ t, J [] t → Q true t)
    (lack : ∀ k v r t, J ((k, v) :: r) t → valueAt kb k = none → Q false t)
    (turn : ∀ k v r t y, J ((k, v) :: r) t → valueAt kb k = some y → wpAny (model prog w) A (eqBool v y) (fun e t' => if e = true then J r t' else Q false t') E t) : wpAny (model prog w) A (Builtin.Dict.samePairs nm a b) Q E s := by
  have n1 : ka.length = es.size := by rw [← r1.length, Array.length_toList]
  have n2 : kb.length = fs.size := by rw [← r2.length, Array.length_toList]
  unfold Builtin.Dict.samePairs Builtin.Dict.showsAll
  rw [sa, sb]
  simp only [if_neg Bool.false_ne_true, pure_bind]
  refine wpAny_bind (wpAny_dictEntries c1 d1 ?_)
  refine wpAny_bind (wpAny_dictEntries c2 d2 ?_)
  by_cases hn : es.size = fs.size
  · rw [if_neg (by simp [hn])]
    refine wpAny_bind (wpAny_dictEpoch c1 d1 (wpAny_bind ?_))
    rw [Std.Legacy.Range.forIn_eq_forIn_range']
    simp only [Std.Legacy.Range.size, Nat.add_sub_cancel, Nat.div_one, Nat.sub_zero]
    refine wpAny_forIn_list _ (fun left acc t => acc = (none, ()) ∧ ∃ j, j ≤ es.size ∧ left = List.range' j (es.size - j) ∧ J (ka.drop j) t) _ ?_ ?_ _ _ ⟨rfl, 0, Nat.zero_le _, by simp, start (by omega)⟩
    · rintro x left acc t ⟨rfl, j, hj, hl, hJ⟩
      have jl : j < es.size := Nat.lt_of_le_of_ne hj fun z => by
        rw [z, Nat.sub_self] at hl
        cases hl
      rw [show es.size - j = (es.size - (j + 1)) + 1 by omega, List.range'_succ] at hl
      obtain ⟨rfl, hl⟩ := List.cons.inj hl
      obtain ⟨g1, g2⟩ := kept _ _ hJ
      refine wpAny_bind (wpAny_dictEntries g1 d1 ?_)
      rw [Array.getElem?_eq_getElem jl]
      have jk : x < ka.length := by omega
      obtain ⟨⟨k, v⟩, ekv⟩ : ∃ kv, ka[x] = kv := ⟨_, rfl⟩
      rw [List.drop_eq_getElem_cons jk, ekv] at hJ
      obtain ⟨isk, isv⟩ := r1.get? (i := x) (e := es[x]) (k := k) (v := v) (by rw [Array.getElem?_toList, Array.getElem?_eq_getElem jl]) (by rw [List.getElem?_eq_getElem jk, ekv])
      obtain ⟨k', isk', hh⟩ := k1 es[x] (Array.getElem_mem jl)
      rw [knd.inj _ _ _ isk' isk] at hh
      show wpAny _ _ (holding [es[x].key, es[x].val] _ >>= _) _ _ _
      rw [hh]
      have look : findBy knd.is fs k = valueAt kb k := by
        rw [← r2.find k]
        obtain ⟨l⟩ := fs
        simp [findBy]
      refine wpAny_bind (wpAny_holding (wpAny_bind (wpAny_dictFind_of isk g2 d2 k2 ?_)))
      cases hf : fs.findIdx? fun e => knd.is k e.key with
      | none =>
        have hn : valueAt kb k = none := by rw [← look, findBy_of_findIdx?, hf]
        refine wpAny_pure ?_
        show wpAny _ _ (if (!false) = true then _ else _) _ _ _
        rw [if_pos (Bool.not_false)]
        exact wpAny_pure (wpAny_pure (lack k v _ t hJ hn))
      | some i =>
        obtain ⟨il, _, _⟩ := Array.findIdx?_eq_some_iff_getElem.mp hf
        have hv : valueAt kb k = some fs[i].val := by
          rw [← look, findBy_of_findIdx?, hf]
          simp [Array.getElem?_eq_getElem il]
        refine wpAny_bind (wpAny_dictEntries g2 d2 ?_)
        rw [Array.getElem?_eq_getElem il]
        refine wpAny_holding ?_
        rw [isv]
        refine wpAny_mono (turn k v _ t _ hJ hv) (fun e t' ht => ?_) fun _ _ z => z
        cases e with
        | false =>
          show wpAny _ _ (if (!false) = true then _ else _) _ _ _
          rw [if_pos (Bool.not_false)]
          exact wpAny_pure (wpAny_pure ht)
        | true =>
          have ht : J (ka.drop (x + 1)) t' := ht
          show wpAny _ _ (if (!true) = true then _ else _) _ _ _
          rw [if_neg (by decide)]
          refine wpAny_bind (wpAny_dictEpoch (kept _ _ ht).1 d1 ?_)
          rw [if_neg (by simp)]
          exact wpAny_pure ⟨rfl, x + 1, jl, hl, ht⟩
    · rintro acc t ⟨rfl, j, hj, hl, hJ⟩
      have je : j = es.size := Nat.le_antisymm hj (Nat.le_of_not_lt fun z => by
        rw [show es.size - j = (es.size - (j + 1)) + 1 by omega, List.range'_succ] at hl
        cases hl)
      rw [je, ← n1, List.drop_length] at hJ
      exact wpAny_pure (stop t hJ)
  · rw [if_pos (by simpa using hn)]
    exact wpAny_bind (wpAny_rule (wpAny_pure (differ (by omega))))
theorem dicts_run {a b : Addr} {o1 o2 : Obj} {es fs : Array DictEntry} {p1 p2 : Nat} {ka kb : List (κ × Value)} {J : List (κ × Value) → Shared → Prop} {Q : Value → Shared → Prop} (hu : A.units < cLine) (sa : (a == sysModules) = false) (sb : (b == sysModules) = false)
    (c1 : s.heap.get? a = some o1) (x1 : o1.ExactDict) (d1 : o1.data = .dict es p1) (k1 : KeysOf knd es) (r1 : Pairs knd es.toList ka) (c2 : s.heap.get? b = some o2) (x2 : o2.ExactDict) (d2 : o2.data = .dict fs p2) (k2 : KeysOf knd fs) (r2 : Pairs knd fs.toList kb)
    (kept : ∀ r t, J r t → t.heap.get? a = some o1 ∧ t.heap.get? b = some o2) (differ : ka.length ≠ kb.length → Q (.bool false) s) (start : ka.length = kb.length → J ka s) (stop : ∀ t, J [] t → Q (.bool true) t)
    (lack : ∀ k v r t, J ((k, v) :: r) t → valueAt kb k = none → Q (.bool false) t)
    (turn : ∀ k v r t y, J ((k, v) :: r) t → valueAt kb k = some y → wpAny (model prog w) A.in1 (eqBool v y) (fun e t' => if e = true then J r t' else Q (.bool false) t') E t) :
    wpAny (model prog w) A (richCompare .Eq (.ref a) (.ref b)) Q E s := by
  have t1 : s.TypeIs (.ref a) "dict" := ⟨_, c1, x1.1⟩
  have t2 : s.TypeIs (.ref b) "dict" := ⟨_, c2, x2.1⟩
  refine wpAny_richCompare_same_room (op := .Eq) t1 t2 PySem.F.slot_dict_eq (wpAny_call_entry PySem.F.slot_dict_eq t1 PySem.F.entry_dict_eq ?_ (PySem.F.args_dict_eq_2 _ _)) hu
  show wpAny _ _ (Builtin.Dict.dictSlotArgs "__eq__" ⟨[.ref a, .ref b], []⟩ >>= _) _ _ s
  unfold Builtin.Dict.dictSlotArgs
  refine wpAny_bind (wpAny_bind (wpAny_notOrdered_dict t1 (wpAny_pure (wpAny_bind (wpAny_isInstance (T := "dict") t2 PySem.F.sub_dict_dict ?_)))))
  rw [if_neg (by decide)]
  refine wpAny_bind (m := Builtin.Dict.addrOf (.ref a)) (wpAny_pure (wpAny_bind (m := Builtin.Dict.addrOf (.ref b)) (wpAny_pure (wpAny_bind ?_))))
  refine wpAny_mono (pairs_run (J := J) (Q := fun e t => Q (.bool e) t) sa sb c1 d1 k1 r1 c2 d2 k2 r2 kept differ start stop lack turn) (fun e t h => ?_) fun _ _ z => z
  refine wpAny_pure ⟨_, rfl, (fun z => nomatch z), ?_⟩
  cases e <;> exact h
end
/-- two values: one thing, or held by the class's own def, which leaves the heap as it is -/
def ValEq (K : PySem.W.Frag) (C : Addr) (sp : Sp) (E : XK) (H : Hp) (v y : V) (e : Bool) : Prop := ∃ p q : Addr, v = .ref p ∧ y = .ref q ∧ ((p = q ∧ e = true) ∨ (p ≠ q ∧ ∃ dx fs t, H p = some (.ins C dx fs) ∧ TyX K H (.ref q) t ∧ PySem.W.notFirst K C t = true ∧ sp [.ref p, .ref q] H (fun z H' => z = .bl e ∧ H' = H) E))
inductive Held (K : PySem.W.Frag) (C : Addr) (sp : Sp) (E : XK) (H : Hp) (kb : List (Key × V)) : List (Key × V) → Bool → Prop
  | nil : Held K C sp E H kb [] true
  | miss {k : Key} {v : V} {r : List (Key × V)} : valV kb k = none → Held K C sp E H kb ((k, v) :: r) false
  | no {k : Key} {v y : V} {r : List (Key × V)} : valV kb k = some y → ValEq K C sp E H v y false → Held K C sp E H kb ((k, v) :: r) false
  | yes {k : Key} {v y : V} {r : List (Key × V)} {e : Bool} : valV kb k = some y → ValEq K C sp E H v y true → Held K C sp E H kb r e → Held K C sp E H kb ((k, v) :: r) e
/-- d == e, both of them locked, their values by a def of the text -/
def rEqDO (K : PySem.W.Frag) (C : Addr) (sp : Sp) (E : XK) : R2 := fun x y H Q => ∃ (a b : Addr) (oa ob : Obj) (ka kb : List (Key × V)) (e : Bool), x = .ref a ∧ y = .ref b ∧ H a = some (.frz oa (.dK ka)) ∧ H b = some (.frz ob (.dK kb)) ∧ (ka.length = kb.length → Held K C sp E H kb ka e) ∧ Q (.bl (decide (ka.length = kb.length) && e)) H
section
variable {X : Cx}
theorem op_eq_dictO {CX : CXT} {k : Nat} {C f : Addr} {fd : FuncData} {ps : List Str} {sp : Sp} {E : XK} (F : FnOk X.prog X.w X.K X.mg X.base CX k f fd ps sp) (hr : Room (k + 1) X.A) (hb : Binds X.K fd ps []) (hx : Passes CX X E)
    (hs : PySem.W.findIn X.K (.ref C) "__eq__" = some (some (.ref f))) (hf : PySem.W.isFn X.K (.ref f) = true) : OpR X (compareOp .Eq) (rEqDO X.K C sp E) := by
  intro pins s σ H x y v u Q I rx ry h
  obtain ⟨a, b, oa, ob, ka, kb, e, rfl, rfl, ha, hb2, hheld, q⟩ := h
  obtain rfl : v = Value.ref a := rx
  obtain rfl : u = Value.ref b := ry
  obtain ⟨sa, ca, xa, es, pa, va, da, za, ra, ma⟩ := I.frzK ha
  obtain ⟨sb, cb, xb, fs, pb, vb, db, zb, rb, mb⟩ := I.frzK hb2
  obtain ⟨o1, es1, g1, _, f1, ka1, pa1, _⟩ := ma
  obtain rfl : oa = o1 := Option.some.inj (ca.symm.trans g1)
  obtain ⟨rfl, _⟩ := Data.dict.inj (da.symm.trans f1)
  obtain ⟨o2, es2, g2, _, f2, kb2, pb2, _⟩ := mb
  obtain rfl : ob = o2 := Option.some.inj (cb.symm.trans g2)
  obtain ⟨rfl, _⟩ := Data.dict.inj (db.symm.trans f2)
  have hl : ka.length = kb.length ↔ va.length = vb.length := by rw [ra.length, rb.length]
  have ans : ∀ {t : Shared} {z : Bool}, L2.Inv X pins σ H t → (decide (ka.length = kb.length) && e) = z → EP X pins σ Q (.bool z) t := fun {t z} I' hz => ⟨.bl z, H, I', rfl, hz ▸ q⟩
  refine dicts_run (knd := mixKind X.prog X.w) (J := fun r t => ka.length = kb.length ∧ L2.Inv X pins σ H t ∧ ∃ rv, KV rv r ∧ Held X.K C sp E H kb rv e) hr.units0 sa sb ca xa da ka1 pa1 cb xb db kb2 pb2 ?_ ?_ ?_ ?_ ?_ ?_
  · rintro r t ⟨_, I', _⟩
    exact ⟨(I'.frzK ha).2.1, (I'.frzK hb2).2.1⟩
  · intro hn
    exact ans I (by rw [decide_eq_false (fun z => hn (hl.mp z))]; rfl)
  · intro hn
    exact ⟨hl.mpr hn, I, ka, ra, hheld (hl.mpr hn)⟩
  · rintro t ⟨hn, I', rv, hrv, hh⟩
    cases hrv
    cases hh
    exact ans I' (by rw [decide_eq_true hn]; rfl)
  · rintro k v r t ⟨hn, I', rv, hrv, hh⟩ hnone
    cases hrv with
    | @cons p _ ps _ hp hps =>
      obtain ⟨k1, v1⟩ := p
      obtain ⟨ek, rv1⟩ := hp
      obtain rfl : k1 = k := ek
      have hrel := rb.val k1
      rw [hnone] at hrel
      have hno : valV kb k1 = none := by
        cases z : valV kb k1 with
        | none => rfl
        | some y => rw [z] at hrel; exact hrel.elim
      cases hh with
      | miss _ => exact ans I' (by rw [Bool.and_false])
      | no hy _ => rw [hno] at hy; cases hy
      | yes hy _ _ => rw [hno] at hy; cases hy
  · rintro k v r t y ⟨hn, I', rv, hrv, hh⟩ hy
    cases hrv with
    | @cons p _ ps _ hp hps =>
      obtain ⟨k1, v1⟩ := p
      obtain ⟨ek, rv1⟩ := hp
      obtain rfl : k1 = k := ek
      have hrel := rb.val k1
      rw [hy] at hrel
      obtain ⟨y1, hy1, ry1⟩ : ∃ y1, valV kb k1 = some y1 ∧ RelV y1 y := by
        cases z : valV kb k1 with
        | none => rw [z] at hrel; exact hrel.elim
        | some y1 => rw [z] at hrel; exact ⟨y1, rfl, hrel⟩
      have ask : ∀ {z : Bool} {R : Bool → Shared → Prop}, ValEq X.K C sp E H v1 y1 z → R z t → (∀ t', L2.Inv X pins σ H t' → R z t') → wpAny (model X.prog X.w) X.A.in1 (eqBool v y) R X.xe t := by
        rintro z R ⟨p, q, rfl, rfl, hpq⟩ hR hR2
        obtain rfl : v = Value.ref p := rv1
        obtain rfl : y = Value.ref q := ry1
        rcases hpq with ⟨rfl, rfl⟩ | ⟨hne, dx, flds, ty, hp, hty, hnf, hsp⟩
        · exact refs_same hR
        · refine refs_bool hne ?_
          obtain ⟨mA, J, _⟩ := ins_get I'.hok hp
          obtain ⟨od, J, _⟩ := J.look
          obtain ⟨m, hF⟩ := I'.fr
          refine PySem.W.cmp_K (op := .Eq) hr.in1.units0 hF I'.ok.mod.kin J (typeOf_ty I' (show RelV (V.ref q) (Value.ref q) from rfl) hty) hnf hs hf ?_
          refine run_sub (A := X.A.in1) (vs := [V.ref p, V.ref q]) F ⟨hr.in1, rfl⟩ hb hx I' (.cons (show RelV (V.ref p) (Value.ref p) from rfl) (.cons (show RelV (V.ref q) (Value.ref q) from rfl) .nil)) hsp fun v2 u2 H2 s2 I2 r2 q2 => ?_
          obtain ⟨rfl, rfl⟩ := q2
          obtain rfl : u2 = Value.bool z := r2
          exact ⟨z, rfl, hR2 _ I2⟩
      cases hh with
      | miss hno => rw [hno] at hy1; cases hy1
      | no hy2 hv =>
        rw [hy2] at hy1
        obtain rfl := Option.some.inj hy1
        exact ask hv (ans I' (by rw [Bool.and_false])) fun t' I2 => ans I2 (by rw [Bool.and_false])
      | yes hy2 hv hr2 =>
        rw [hy2] at hy1
        obtain rfl := Option.some.inj hy1
        exact ask hv ⟨hn, I', ps, hps, hr2⟩ fun t' I2 => ⟨hn, I2, ps, hps, hr2⟩
end
end Own

set_option Elab.async false
set_option linter.all false
set_option maxRecDepth 100000
set_option maxHeartbeats 2000000
/-! f-strings and len of own instances -/
namespace Own
open PySem PySem.Spec PyProof.Rows L2
section
variable {X : Cx}
/-- {o}: the class's own __repr__ -/
def tFmtO (C : Addr) (sp : Sp) (E : XK) (te : TE) : TE := fun σ H Q => te σ H fun x H1 => ∃ a dx fs, x = .ref a ∧ H1 a = some (.ins C dx fs) ∧ sp [.ref a] H1 (fun v H' => (∃ y, v = .str y) ∧ Q v H') E
theorem pe_fmtO {CX : CXT} {k : Nat} {C f : Addr} {fd : FuncData} {ps : List Str} {sp : Sp} {E : XK} (F : FnOk X.prog X.w X.K X.mg X.base CX k f fd ps sp) (hr : Room (k + 2) X.A) (hb : Binds X.K fd ps []) (hx : Passes CX X E)
    (hs : PySem.W.findIn X.K (.ref C) "__repr__" = some (some (.ref f))) (hf : PySem.W.isFn X.K (.ref f) = true)
    (h1 : PySem.W.findIn X.K (.ref C) "__format__" = some (some (.builtin "object.__format__"))) (h2 : PySem.W.findIn X.K (.ref C) "__str__" = some (some (.builtin "object.__str__"))) (h3 : PySem.W.mroIn X.K C (.type "object") = some true)
    {e : Expr} {te : TE} {pos : Pos} (he : PE X e te) : PE X (.FormattedValue e (-1) none pos) (tFmtO C sp E te) := by
  refine ⟨fun pins s σ H Q I h => ?_⟩
  refine wpAny_FormattedValue_plain (thn (he.run pins s σ H _ I h) fun v s1 hv => ?_)
  obtain ⟨x, H1, I1, r1, a, dx, fs, rfl, ha, h⟩ := hv
  obtain rfl : v = Value.ref a := r1
  obtain ⟨mA, J, _⟩ := ins_get I1.hok ha
  obtain ⟨od, J, _⟩ := J.look
  have hr1 : Room (k + 1) X.A.in1 := hr.in1
  refine PySem.W.kfo_fieldR hr.in1.units0 hr1.in1.units0 I1.kIn J h1 h3 h2 hs hf ?_
  refine run_sub (A := X.A.in1.in1) (vs := [V.ref a]) F ⟨hr1.in1, rfl⟩ hb hx (I1.tok _) (.cons (show RelV (V.ref a) (Value.ref a) from rfl) .nil) h fun v u H' s' I' rv q => ?_
  obtain ⟨⟨y, rfl⟩, q⟩ := q
  obtain ⟨t, rfl⟩ := rv
  exact ⟨.str y, H', I', ⟨t, rfl⟩, q⟩
/-- len(o): the class's own __len__ -/
def rLenI (C : Addr) (sp : Sp) (E : XK) : List V → Hp → VK → Prop := fun vs H Q =>
  ∃ a dx fs, vs = [V.ref a] ∧ H a = some (.ins C dx fs) ∧ sp [.ref a] H (fun v H' => ∃ i : Int, v = .int i ∧ 0 ≤ i ∧ i < 2 ^ 63 ∧ Q (.int i) H') E
theorem call_len_own {CX : CXT} {k : Nat} {C f : Addr} {fd : FuncData} {ps : List Str} {sp : Sp} {E : XK} (F : FnOk X.prog X.w X.K X.mg X.base CX k f fd ps sp) (hr : Room (k + 1) X.A) (hb : Binds X.K fd ps []) (hx : Passes CX X E)
    (hs : PySem.W.findIn X.K (.ref C) "__len__" = some (some (.ref f))) (hf : PySem.W.isFn X.K (.ref f) = true) : CallR X (.builtin "len") (rLenI C sp E) := by
  intro pins s σ H xs us Q I r h
  obtain ⟨a, dx, fs, rfl, ha, h⟩ := h
  obtain ⟨u, rfl, ru⟩ := vals1 r
  obtain rfl : u = Value.ref a := ru
  obtain ⟨mA, J, _⟩ := ins_get I.hok ha
  obtain ⟨od, J, _⟩ := J.look
  obtain ⟨m, hF⟩ := I.fr
  refine PySem.W.len_K hF I.ok.mod.kin J hs hf ?_
  refine run_sub (A := X.A.in1) (vs := [V.ref a]) F ⟨hr.in1, rfl⟩ hb hx I (.cons (show RelV (V.ref a) (Value.ref a) from rfl) .nil) h fun v u H' s' I' rv q => ?_
  obtain ⟨i, rfl, h0, h1, q⟩ := q
  obtain ⟨t, rfl⟩ := rv
  exact ⟨⟨h0, h1⟩, .int i, H', I'.tok _, ⟨_, rfl⟩, q⟩
end
end Own
namespace Own
open PySem PySem.Spec PyProof.Rows L2
section
variable {X : Cx}
/-- a list != an empty one -/
def rNeNil (K : PySem.W.Frag) : R2 := fun x y H Q => ∃ a b xs, x = .ref a ∧ y = .ref b ∧ SqL K H a xs ∧ SqL K H b [] ∧ Q (.bl (!xs.isEmpty)) H
theorem op_ne_nil (hu : X.A.units < cLine) : OpR X (compareOp .NotEq) (rNeNil X.K) := by
  intro pins s σ H x y v u Q I rx ry h
  obtain ⟨a, b, xs, rfl, rfl, ha, hb, q⟩ := h
  obtain rfl : v = Value.ref a := rx
  obtain rfl : u = Value.ref b := ry
  obtain ⟨its, rv, ⟨o, n, ho, hc, _, hd⟩, _⟩ := I.list ha
  obtain ⟨its2, rv2, ⟨o2, n2, ho2, hc2, _, hd2⟩, _⟩ := I.list hb
  cases rv2
  show wpAny _ _ (richCompare .NotEq (.ref a) (.ref b)) _ _ _
  cases xs with
  | nil =>
    cases rv
    exact PySem.SeqAt.RcNeAt.lists (e := fun _ => true) ⟨o, ho, hc, n, hd⟩ ⟨o2, ho2, hc2, n2, hd2⟩ rfl hu (fun j h1 => absurd h1 (Nat.not_lt_zero _)) X.prog X.w X.xe _ ⟨.bl _, H, I, rfl, q⟩
  | cons x xs =>
    cases rv
    exact PySem.SeqAt.RcNeAt.lists_lengths ⟨o, ho, hc, n, hd⟩ ⟨o2, ho2, hc2, n2, hd2⟩ rfl hu X.prog X.w X.xe _ ⟨.bl _, H, I, rfl, q⟩
theorem val_rev {n : Str} : ∀ {es : List (Str × Rat)}, val es.reverse n = val es n
  | [] => rfl
  | e :: es => by
    rw [List.reverse_cons, val_append, val_rev]
    have : val (e :: es) n = val [e] n + val es n := val_append (a := [e])
    rw [this, Rat.add_comm]
theorem pair_rev {α β : Type} {F : α → β → Prop} : ∀ {xs : List α} {ys : List β}, Paired F xs ys → Paired F xs.reverse ys.reverse
  | _, _, .nil => .nil
  | _, _, .cons a b => by
    rw [List.reverse_cons, List.reverse_cons]
    exact papp (pair_rev b) (.cons a .nil)
end
end Own

set_option Elab.async false
set_option maxRecDepth 100000
set_option maxHeartbeats 4000000
set_option linter.all false
namespace My
open PySem L2 Own
def top (i : Nat) : Stmt := PySem.Challenge.pw_oneroof_k03_purses_made.main.body.getD i (.Pass ⟨0, 0, 0, 0⟩)
abbrev s_Part_init : Stmt := inClass (top 5) 0
abbrev N_Part_init : List Str := ["self", "top", "low", "common"]
abbrev ps_Part_init : List Str := ["self", "top", "low"]
theorem sc_Part_init : FnScope N_Part_init ps_Part_init (defScope s_Part_init) := ⟨rfl, rfl, rfl, by decide +kernel, rfl, by decide +kernel, by decide +kernel⟩
abbrev s_Part_plus : Stmt := inClass (top 5) 1
abbrev N_Part_plus : List Str := ["self", "other"]
abbrev ps_Part_plus : List Str := ["self", "other"]
theorem sc_Part_plus : FnScope N_Part_plus ps_Part_plus (defScope s_Part_plus) := ⟨rfl, rfl, rfl, by decide +kernel, rfl, by decide +kernel, by decide +kernel⟩
abbrev s_Part_sign : Stmt := inClass (top 5) 5
abbrev N_Part_sign : List Str := ["self"]
abbrev ps_Part_sign : List Str := ["self"]
theorem sc_Part_sign : FnScope N_Part_sign ps_Part_sign (defScope s_Part_sign) := ⟨rfl, rfl, rfl, by decide +kernel, rfl, by decide +kernel, by decide +kernel⟩
abbrev s_Part_eq : Stmt := inClass (top 5) 6
abbrev N_Part_eq : List Str := ["self", "other"]
abbrev ps_Part_eq : List Str := ["self", "other"]
theorem sc_Part_eq : FnScope N_Part_eq ps_Part_eq (defScope s_Part_eq) := ⟨rfl, rfl, rfl, by decide +kernel, rfl, by decide +kernel, by decide +kernel⟩
abbrev s_Part_repr : Stmt := inClass (top 5) 7
abbrev N_Part_repr : List Str := ["self"]
abbrev ps_Part_repr : List Str := ["self"]
theorem sc_Part_repr : FnScope N_Part_repr ps_Part_repr (defScope s_Part_repr) := ⟨rfl, rfl, rfl, by decide +kernel, rfl, by decide +kernel, by decide +kernel⟩
abbrev s_Purse_init : Stmt := inClass (top 6) 0
abbrev N_Purse_init : List Str := ["self", "rows", "sums", "coin", "part"]
abbrev ps_Purse_init : List Str := ["self", "rows"]
theorem sc_Purse_init : FnScope N_Purse_init ps_Purse_init (defScope s_Purse_init) := ⟨rfl, rfl, rfl, by decide +kernel, rfl, by decide +kernel, by decide +kernel⟩
abbrev s_Purse_at : Stmt := inClass (top 6) 1
abbrev N_Purse_at : List Str := ["self", "coin"]
abbrev ps_Purse_at : List Str := ["self", "coin"]
theorem sc_Purse_at : FnScope N_Purse_at ps_Purse_at (defScope s_Purse_at) := ⟨rfl, rfl, rfl, by decide +kernel, rfl, by decide +kernel, by decide +kernel⟩
abbrev s_Purse_coins : Stmt := inClass (top 6) 2
abbrev N_Purse_coins : List Str := ["self"]
abbrev ps_Purse_coins : List Str := ["self"]
theorem sc_Purse_coins : FnScope N_Purse_coins ps_Purse_coins (defScope s_Purse_coins) := ⟨rfl, rfl, rfl, by decide +kernel, rfl, by decide +kernel, by decide +kernel⟩
abbrev s_Purse_eq : Stmt := inClass (top 6) 8
abbrev N_Purse_eq : List Str := ["self", "other"]
abbrev ps_Purse_eq : List Str := ["self", "other"]
theorem sc_Purse_eq : FnScope N_Purse_eq ps_Purse_eq (defScope s_Purse_eq) := ⟨rfl, rfl, rfl, by decide +kernel, rfl, by decide +kernel, by decide +kernel⟩
abbrev s_Purse_len : Stmt := inClass (top 6) 9
abbrev N_Purse_len : List Str := ["self"]
abbrev ps_Purse_len : List Str := ["self"]
theorem sc_Purse_len : FnScope N_Purse_len ps_Purse_len (defScope s_Purse_len) := ⟨rfl, rfl, rfl, by decide +kernel, rfl, by decide +kernel, by decide +kernel⟩
abbrev s_Purse_repr : Stmt := inClass (top 6) 10
abbrev N_Purse_repr : List Str := ["self", "coin", "held"]
abbrev ps_Purse_repr : List Str := ["self"]
theorem sc_Purse_repr : FnScope N_Purse_repr ps_Purse_repr (defScope s_Purse_repr) := ⟨rfl, rfl, rfl, by decide +kernel, rfl, by decide +kernel, by decide +kernel⟩
abbrev s_l_cell : Stmt := top 8
abbrev N_l_cell : List Str := ["_law_script", "_law_k", "_law_base", "_law_one"]
abbrev ps_l_cell : List Str := ["_law_script", "_law_k"]
theorem sc_l_cell : FnScope N_l_cell ps_l_cell (defScope s_l_cell) := ⟨rfl, rfl, rfl, by decide +kernel, rfl, by decide +kernel, by decide +kernel⟩
abbrev s_l_digits : Stmt := top 9
abbrev N_l_digits : List Str := ["_law_script", "_law_k", "_law_sizes", "_law_cell_here", "_law_out", "_law_rest", "_law_size", "_law_one", "_law_j", "_law_two"]
abbrev ps_l_digits : List Str := ["_law_script", "_law_k", "_law_sizes"]
theorem sc_l_digits : FnScope N_l_digits ps_l_digits (defScope s_l_digits) := ⟨rfl, rfl, rfl, by decide +kernel, rfl, by decide +kernel, by decide +kernel⟩
abbrev s_l_names : Stmt := top 10
abbrev N_l_names : List Str := ["_law_script", "_law_k", "_law_many", "_law_found", "_law_letters", "_law_j", "_law_one", "_law_two", "_law_size", "_law_place", "_law_rest", "_law_name", "_law_i", "_law_tail"]
abbrev ps_l_names : List Str := ["_law_script", "_law_k", "_law_many"]
theorem sc_l_names : FnScope N_l_names ps_l_names (defScope s_l_names) := ⟨rfl, rfl, rfl, by decide +kernel, rfl, by decide +kernel, by decide +kernel⟩
abbrev s_l_frac : Stmt := top 11
abbrev N_l_frac : List Str := ["_law_top", "_law_low", "_law_one", "_law_other", "_law_sign"]
abbrev ps_l_frac : List Str := ["_law_top", "_law_low"]
theorem sc_l_frac : FnScope N_l_frac ps_l_frac (defScope s_l_frac) := ⟨rfl, rfl, rfl, by decide +kernel, rfl, by decide +kernel, by decide +kernel⟩
abbrev s_l_plus : Stmt := top 12
abbrev N_l_plus : List Str := ["_law_one", "_law_other"]
abbrev ps_l_plus : List Str := ["_law_one", "_law_other"]
theorem sc_l_plus : FnScope N_l_plus ps_l_plus (defScope s_l_plus) := ⟨rfl, rfl, rfl, by decide +kernel, rfl, by decide +kernel, by decide +kernel⟩
abbrev s_l_add : Stmt := top 13
abbrev N_l_add : List Str := ["_law_bag", "_law_coin", "_law_top", "_law_low", "_law_old"]
abbrev ps_l_add : List Str := ["_law_bag", "_law_coin", "_law_top", "_law_low"]
theorem sc_l_add : FnScope N_l_add ps_l_add (defScope s_l_add) := ⟨rfl, rfl, rfl, by decide +kernel, rfl, by decide +kernel, by decide +kernel⟩
abbrev s_l_due : Stmt := top 14
abbrev N_l_due : List Str := ["_law_bag", "_law_coin"]
abbrev ps_l_due : List Str := ["_law_bag"]
theorem sc_l_due : FnScope N_l_due ps_l_due (defScope s_l_due) := ⟨rfl, rfl, rfl, by decide +kernel, rfl, by decide +kernel, by decide +kernel⟩
abbrev s_l_whole : Stmt := top 15
abbrev N_l_whole : List Str := ["_law_x"]
abbrev ps_l_whole : List Str := ["_law_x"]
theorem sc_l_whole : FnScope N_l_whole ps_l_whole (defScope s_l_whole) := ⟨rfl, rfl, rfl, by decide +kernel, rfl, by decide +kernel, by decide +kernel⟩
abbrev s_l_told : Stmt := top 16
abbrev N_l_told : List Str := ["_law_purse", "_law_found", "_law_coin", "_law_part", "_law_row"]
abbrev ps_l_told : List Str := ["_law_purse"]
theorem sc_l_told : FnScope N_l_told ps_l_told (defScope s_l_told) := ⟨rfl, rfl, rfl, by decide +kernel, rfl, by decide +kernel, by decide +kernel⟩
abbrev s_l_same : Stmt := top 17
abbrev N_l_same : List Str := ["_law_one", "_law_other"]
abbrev ps_l_same : List Str := ["_law_one", "_law_other"]
theorem sc_l_same : FnScope N_l_same ps_l_same (defScope s_l_same) := ⟨rfl, rfl, rfl, by decide +kernel, rfl, by decide +kernel, by decide +kernel⟩
abbrev s_law : Stmt := top 18
abbrev N_law : List Str := ["_law_script", "_law_names_here", "_law_many", "_law_way", "_law_rows", "_law_bag", "_law_k", "_law_which", "_law_top", "_law_low", "_law_turn", "_law_last", "_law_due_here", "_law_handed", "_law_purse", "_law_name", "_law_part", "_law_right", "_law_shown", "_law_coin", "_law_turning", "_law_other"]
abbrev ps_law : List Str := ["_law_script"]
theorem sc_law : FnScope N_law ps_law (defScope s_law) := ⟨rfl, rfl, rfl, by decide +kernel, rfl, by decide +kernel, by decide +kernel⟩
structure Adr where
  C_Part : Addr
  C_Purse : Addr
  f_Part_init : Addr
  d_Part_init : FuncData
  f_Part_plus : Addr
  d_Part_plus : FuncData
  f_Part_sign : Addr
  d_Part_sign : FuncData
  f_Part_eq : Addr
  d_Part_eq : FuncData
  f_Part_repr : Addr
  d_Part_repr : FuncData
  f_Purse_init : Addr
  d_Purse_init : FuncData
  f_Purse_at : Addr
  d_Purse_at : FuncData
  f_Purse_coins : Addr
  d_Purse_coins : FuncData
  f_Purse_eq : Addr
  d_Purse_eq : FuncData
  f_Purse_len : Addr
  d_Purse_len : FuncData
  f_Purse_repr : Addr
  d_Purse_repr : FuncData
  f_l_cell : Addr
  d_l_cell : FuncData
  f_l_digits : Addr
  d_l_digits : FuncData
  f_l_names : Addr
  d_l_names : FuncData
  f_l_frac : Addr
  d_l_frac : FuncData
  f_l_plus : Addr
  d_l_plus : FuncData
  f_l_add : Addr
  d_l_add : FuncData
  f_l_due : Addr
  d_l_due : FuncData
  f_l_whole : Addr
  d_l_whole : FuncData
  f_l_told : Addr
  d_l_told : FuncData
  f_l_same : Addr
  d_l_same : FuncData
  f_law : Addr
  d_law : FuncData
  t_rows : Addr
/-- what the walk asks of the text -/
structure Tx (a : Adr) (K : PySem.W.Frag) (mg : Str → Option Value) (w : World) : Prop where
  F_Part_init : FunD K "__init__" "Part.__init__" (defArgs s_Part_init) (defBody s_Part_init) (defScope s_Part_init) [V.int 1] [] a.f_Part_init a.d_Part_init
  F_Part_plus : Fun K "plus" "Part.plus" s_Part_plus a.f_Part_plus a.d_Part_plus
  F_Part_sign : Fun K "sign" "Part.sign" s_Part_sign a.f_Part_sign a.d_Part_sign
  F_Part_eq : Fun K "__eq__" "Part.__eq__" s_Part_eq a.f_Part_eq a.d_Part_eq
  F_Part_repr : Fun K "__repr__" "Part.__repr__" s_Part_repr a.f_Part_repr a.d_Part_repr
  F_Purse_init : FunD K "__init__" "Purse.__init__" (defArgs s_Purse_init) (defBody s_Purse_init) (defScope s_Purse_init) [V.ref a.t_rows] [] a.f_Purse_init a.d_Purse_init
  F_Purse_at : Fun K "at" "Purse.at" s_Purse_at a.f_Purse_at a.d_Purse_at
  F_Purse_coins : Fun K "coins" "Purse.coins" s_Purse_coins a.f_Purse_coins a.d_Purse_coins
  F_Purse_eq : Fun K "__eq__" "Purse.__eq__" s_Purse_eq a.f_Purse_eq a.d_Purse_eq
  F_Purse_len : Fun K "__len__" "Purse.__len__" s_Purse_len a.f_Purse_len a.d_Purse_len
  F_Purse_repr : Fun K "__repr__" "Purse.__repr__" s_Purse_repr a.f_Purse_repr a.d_Purse_repr
  F_l_cell : Fun K "_law_cell" "_law_cell" s_l_cell a.f_l_cell a.d_l_cell
  mg_l_cell : mg "_law_cell" = some (.ref a.f_l_cell)
  F_l_digits : Fun K "_law_digits" "_law_digits" s_l_digits a.f_l_digits a.d_l_digits
  mg_l_digits : mg "_law_digits" = some (.ref a.f_l_digits)
  F_l_names : Fun K "_law_names" "_law_names" s_l_names a.f_l_names a.d_l_names
  mg_l_names : mg "_law_names" = some (.ref a.f_l_names)
  F_l_frac : Fun K "_law_frac" "_law_frac" s_l_frac a.f_l_frac a.d_l_frac
  mg_l_frac : mg "_law_frac" = some (.ref a.f_l_frac)
  F_l_plus : Fun K "_law_plus" "_law_plus" s_l_plus a.f_l_plus a.d_l_plus
  mg_l_plus : mg "_law_plus" = some (.ref a.f_l_plus)
  F_l_add : Fun K "_law_add" "_law_add" s_l_add a.f_l_add a.d_l_add
  mg_l_add : mg "_law_add" = some (.ref a.f_l_add)
  F_l_due : Fun K "_law_due" "_law_due" s_l_due a.f_l_due a.d_l_due
  mg_l_due : mg "_law_due" = some (.ref a.f_l_due)
  F_l_whole : Fun K "_law_whole" "_law_whole" s_l_whole a.f_l_whole a.d_l_whole
  mg_l_whole : mg "_law_whole" = some (.ref a.f_l_whole)
  F_l_told : Fun K "_law_told" "_law_told" s_l_told a.f_l_told a.d_l_told
  mg_l_told : mg "_law_told" = some (.ref a.f_l_told)
  F_l_same : Fun K "_law_same" "_law_same" s_l_same a.f_l_same a.d_l_same
  mg_l_same : mg "_law_same" = some (.ref a.f_l_same)
  F_law : Fun K "law" "law" s_law a.f_law a.d_law
  mg_law : mg "law" = some (.ref a.f_law)
  mg_Part : mg "Part" = some (.ref a.C_Part)
  kp_Part : PySem.W.keepIn K (.ref a.C_Part) = true
  cl_Part : Cls K a.C_Part
  mk_Part : Mk K a.C_Part a.f_Part_init
  m_Part_plus : Meth K a.C_Part "plus" a.f_Part_plus
  m_Part_sign : Meth K a.C_Part "sign" a.f_Part_sign
  m_Part_eq : Meth K a.C_Part "__eq__" a.f_Part_eq
  m_Part_repr : Meth K a.C_Part "__repr__" a.f_Part_repr
  na_Part_top : PySem.W.findIn K (.ref a.C_Part) "top" = some none
  na_Part_low : PySem.W.findIn K (.ref a.C_Part) "low" = some none
  mro_Part : PySem.W.mroIn K a.C_Part (.type "object") = some true
  cc_Part : PySem.W.findIn K (.ref a.C_Part) "__class__" = some (some (.builtin "object.__class__"))
  ff_Part : PySem.W.findIn K (.ref a.C_Part) "__format__" = some (some (.builtin "object.__format__"))
  fs_Part : PySem.W.findIn K (.ref a.C_Part) "__str__" = some (some (.builtin "object.__str__"))
  ne_Part : PySem.W.findIn K (.ref a.C_Part) "__ne__" = some (some (.builtin "object.__ne__"))
  kit_Part_Part : PySem.W.kitOne K (.ref a.C_Part) (.ref a.C_Part) = some true
  nf_Part_Part : PySem.W.notFirst K a.C_Part (.ref a.C_Part) = true
  mg_Purse : mg "Purse" = some (.ref a.C_Purse)
  kp_Purse : PySem.W.keepIn K (.ref a.C_Purse) = true
  cl_Purse : Cls K a.C_Purse
  mk_Purse : Mk K a.C_Purse a.f_Purse_init
  m_Purse_at : Meth K a.C_Purse "at" a.f_Purse_at
  m_Purse_coins : Meth K a.C_Purse "coins" a.f_Purse_coins
  m_Purse_eq : Meth K a.C_Purse "__eq__" a.f_Purse_eq
  m_Purse_len : Meth K a.C_Purse "__len__" a.f_Purse_len
  m_Purse_repr : Meth K a.C_Purse "__repr__" a.f_Purse_repr
  na_Purse__held : PySem.W.findIn K (.ref a.C_Purse) "_held" = some none
  mro_Purse : PySem.W.mroIn K a.C_Purse (.type "object") = some true
  cc_Purse : PySem.W.findIn K (.ref a.C_Purse) "__class__" = some (some (.builtin "object.__class__"))
  kit_Purse_Purse : PySem.W.kitOne K (.ref a.C_Purse) (.ref a.C_Purse) = some true
  kit_list_Purse : PySem.W.kitOne K (.type "list") (.ref a.C_Purse) = some false
  kit_str_Purse : PySem.W.kitOne K (.type "str") (.ref a.C_Purse) = some false
  kit_Part_Purse : PySem.W.kitOne K (.ref a.C_Part) (.ref a.C_Purse) = some false
  nf_Purse_Purse : PySem.W.notFirst K a.C_Purse (.ref a.C_Purse) = true
  nf_list_Purse : PySem.W.notFirst K a.C_Purse (.type "list") = true
  nf_str_Purse : PySem.W.notFirst K a.C_Purse (.type "str") = true
  nf_Part_Purse : PySem.W.notFirst K a.C_Purse (.ref a.C_Part) = true
  cget : PySem.W.specialIn K (.builtin "object.__class__") "__get__" = some (some (.builtin "getset_descriptor.__get__"))
  ctk : PySem.W.takesIn K (.builtin "object.__class__") = some true
  sq_t_rows : SqtK K a.t_rows []
  no_len : mg "len" = none
  no_range : mg "range" = none
  no_isinstance : mg "isinstance" = none
  no_repr : mg "repr" = none
  no_dict : mg "dict" = none
  no_sorted : mg "sorted" = none
  no_abs : mg "abs" = none
  no_list : mg "list" = none
  no_tuple : mg "tuple" = none
  no_all : mg "all" = none
  no_str : mg "str" = none
  no_int : mg "int" = none
  no_bool : mg "bool" = none
  mg_gcd : mg "gcd" = some (.builtin "math.gcd")
section
variable {P : Program} {w : World} {K : PySem.W.Frag} {mg : Str → Option Value} {base : Heap} {a : Adr}
theorem cxK {CX : CXT} {N : List Str} {q : Str} {sc : Scope} {f : Addr} {cdv : Value} {A : Around} {outer : List Env} {s : Shared} {H : Hp} {E : XK} : (cxOf CX P w K mg base N q sc f cdv A outer s H E).K = K := rfl
theorem bnd_Part_init_1 (T : Tx a K mg w) : ∃ ds, Vals (([V.int 1] : List V).drop 0) ds ∧ Binds K a.d_Part_init ps_Part_init ds :=
  T.F_Part_init.binds1 (ps := ps_Part_init) 2 0 (List.cons_ne_nil _ _) rfl fun T kV doc pm an cdv ct us its hl hd => match us, its, hl, hd with | [_, _], [_], _, _ => ⟨_, rfl, rfl⟩
theorem bnd_Part_init_2 (T : Tx a K mg w) : ∃ ds, Vals (([V.int 1] : List V).drop 1) ds ∧ Binds K a.d_Part_init ps_Part_init ds :=
  T.F_Part_init.binds1 (ps := ps_Part_init) 3 1 (List.cons_ne_nil _ _) rfl fun T kV doc pm an cdv ct us its hl hd => match us, its, hl, hd with | [_, _, _], [_], _, _ => ⟨_, rfl, rfl⟩
theorem bnd_Part_plus (T : Tx a K mg w) : Binds K a.d_Part_plus ps_Part_plus [] :=
  T.F_Part_plus.binds (ps := ps_Part_plus) fun _ _ _ _ _ _ us hl => match us, hl with | [_, _], _ => rfl
theorem bnd_Part_sign (T : Tx a K mg w) : Binds K a.d_Part_sign ps_Part_sign [] :=
  T.F_Part_sign.binds (ps := ps_Part_sign) fun _ _ _ _ _ _ us hl => match us, hl with | [_], _ => rfl
theorem bnd_Part_eq (T : Tx a K mg w) : Binds K a.d_Part_eq ps_Part_eq [] :=
  T.F_Part_eq.binds (ps := ps_Part_eq) fun _ _ _ _ _ _ us hl => match us, hl with | [_, _], _ => rfl
theorem bnd_Part_repr (T : Tx a K mg w) : Binds K a.d_Part_repr ps_Part_repr [] :=
  T.F_Part_repr.binds (ps := ps_Part_repr) fun _ _ _ _ _ _ us hl => match us, hl with | [_], _ => rfl
theorem bnd_Purse_init_0 (T : Tx a K mg w) : ∃ ds, Vals (([V.ref a.t_rows] : List V).drop 0) ds ∧ Binds K a.d_Purse_init ps_Purse_init ds :=
  T.F_Purse_init.binds1 (ps := ps_Purse_init) 1 0 (List.cons_ne_nil _ _) rfl fun T kV doc pm an cdv ct us its hl hd => match us, its, hl, hd with | [_], [_], _, _ => ⟨_, rfl, rfl⟩
theorem bnd_Purse_init_1 (T : Tx a K mg w) : ∃ ds, Vals (([V.ref a.t_rows] : List V).drop 1) ds ∧ Binds K a.d_Purse_init ps_Purse_init ds :=
  T.F_Purse_init.binds1 (ps := ps_Purse_init) 2 1 (List.cons_ne_nil _ _) rfl fun T kV doc pm an cdv ct us its hl hd => match us, its, hl, hd with | [_, _], [_], _, _ => ⟨_, rfl, rfl⟩
theorem bnd_Purse_at (T : Tx a K mg w) : Binds K a.d_Purse_at ps_Purse_at [] :=
  T.F_Purse_at.binds (ps := ps_Purse_at) fun _ _ _ _ _ _ us hl => match us, hl with | [_, _], _ => rfl
theorem bnd_Purse_coins (T : Tx a K mg w) : Binds K a.d_Purse_coins ps_Purse_coins [] :=
  T.F_Purse_coins.binds (ps := ps_Purse_coins) fun _ _ _ _ _ _ us hl => match us, hl with | [_], _ => rfl
theorem bnd_Purse_eq (T : Tx a K mg w) : Binds K a.d_Purse_eq ps_Purse_eq [] :=
  T.F_Purse_eq.binds (ps := ps_Purse_eq) fun _ _ _ _ _ _ us hl => match us, hl with | [_, _], _ => rfl
theorem bnd_Purse_len (T : Tx a K mg w) : Binds K a.d_Purse_len ps_Purse_len [] :=
  T.F_Purse_len.binds (ps := ps_Purse_len) fun _ _ _ _ _ _ us hl => match us, hl with | [_], _ => rfl
theorem bnd_Purse_repr (T : Tx a K mg w) : Binds K a.d_Purse_repr ps_Purse_repr [] :=
  T.F_Purse_repr.binds (ps := ps_Purse_repr) fun _ _ _ _ _ _ us hl => match us, hl with | [_], _ => rfl
theorem bnd_l_cell (T : Tx a K mg w) : Binds K a.d_l_cell ps_l_cell [] :=
  T.F_l_cell.binds (ps := ps_l_cell) fun _ _ _ _ _ _ us hl => match us, hl with | [_, _], _ => rfl
theorem bnd_l_digits (T : Tx a K mg w) : Binds K a.d_l_digits ps_l_digits [] :=
  T.F_l_digits.binds (ps := ps_l_digits) fun _ _ _ _ _ _ us hl => match us, hl with | [_, _, _], _ => rfl
theorem bnd_l_names (T : Tx a K mg w) : Binds K a.d_l_names ps_l_names [] :=
  T.F_l_names.binds (ps := ps_l_names) fun _ _ _ _ _ _ us hl => match us, hl with | [_, _, _], _ => rfl
theorem bnd_l_frac (T : Tx a K mg w) : Binds K a.d_l_frac ps_l_frac [] :=
  T.F_l_frac.binds (ps := ps_l_frac) fun _ _ _ _ _ _ us hl => match us, hl with | [_, _], _ => rfl
theorem bnd_l_plus (T : Tx a K mg w) : Binds K a.d_l_plus ps_l_plus [] :=
  T.F_l_plus.binds (ps := ps_l_plus) fun _ _ _ _ _ _ us hl => match us, hl with | [_, _], _ => rfl
theorem bnd_l_add (T : Tx a K mg w) : Binds K a.d_l_add ps_l_add [] :=
  T.F_l_add.binds (ps := ps_l_add) fun _ _ _ _ _ _ us hl => match us, hl with | [_, _, _, _], _ => rfl
theorem bnd_l_due (T : Tx a K mg w) : Binds K a.d_l_due ps_l_due [] :=
  T.F_l_due.binds (ps := ps_l_due) fun _ _ _ _ _ _ us hl => match us, hl with | [_], _ => rfl
theorem bnd_l_whole (T : Tx a K mg w) : Binds K a.d_l_whole ps_l_whole [] :=
  T.F_l_whole.binds (ps := ps_l_whole) fun _ _ _ _ _ _ us hl => match us, hl with | [_], _ => rfl
theorem bnd_l_told (T : Tx a K mg w) : Binds K a.d_l_told ps_l_told [] :=
  T.F_l_told.binds (ps := ps_l_told) fun _ _ _ _ _ _ us hl => match us, hl with | [_], _ => rfl
theorem bnd_l_same (T : Tx a K mg w) : Binds K a.d_l_same ps_l_same [] :=
  T.F_l_same.binds (ps := ps_l_same) fun _ _ _ _ _ _ us hl => match us, hl with | [_, _], _ => rfl
theorem bnd_law (T : Tx a K mg w) : Binds K a.d_law ps_law [] :=
  T.F_law.binds (ps := ps_law) fun _ _ _ _ _ _ us hl => match us, hl with | [_], _ => rfl
/-! ### _law_cell -/
def spCell (K : PySem.W.Frag) : Sp := fun vs H Q _ => ∃ (l : Addr) (ns : List Int) (k : Int), vs = [.ref l, .int k] ∧ SqL K H l (ns.map V.int) ∧ ns.length ≤ 63 ∧ 0 ≤ k ∧ k < 1000000 ∧ ∀ c : Int, Q (.int c) H
theorem ok_l_cell (T : Tx a K mg w) : FnOk P w K mg base CX0 1 a.f_l_cell a.d_l_cell ps_l_cell (spCell K) := by
  refine T.F_l_cell.ok sc_l_cell (fun vs H Q E h => ?_) (fun cdv A outer s H vs Q E hr h => ?_)
  · obtain ⟨l, ns, k, rfl, _⟩ := h
    rfl
  · obtain ⟨l, ns, k, rfl, hs, hn, h0, h1, q⟩ := h
    refine ⟨_, (pss_cons (ps_if (pt_cmpR op_lt (pv 1) (pe_callB call_len_seq (by rfl) T.no_len (by decide +kernel) (pa_cons (pv 0) pa_nil)) (nomark _)) (pss_one (ps_ret (pe_ix ix_list (pv 0) (pv 1) (fun _ _ => rfl)))) pss_nil)
      (pss_cons (ps_set (i := 2) sc_l_cell.nd rfl (by first | exact Or.inl rfl | exact Or.inr rfl) pe_int)
      (pss_cons (ps_for PassesOwn.never rfl (pi_list (pv 0)) (pg_name (i := 3) sc_l_cell.nd rfl (by first | exact Or.inl rfl | exact Or.inr rfl))
        (pss_one (ps_set (i := 2) sc_l_cell.nd rfl (by first | exact Or.inl rfl | exact Or.inr rfl) (pe_op op_mod (pe_op op_add (pe_op op_mulW (pv 2) pe_int) (pv 3)) pe_int))))
      (pss_one (ps_ret (pe_op op_mod (pe_op op_mulW (pe_op op_mulW (pe_op op_add (pv 2) pe_int) (pe_op op_add (pv 1) pe_int)) pe_int) pe_int)))))), ?_⟩
    show tSeq _ _ _ [some (V.ref l), some (V.int k), none, none] H
    simp only [tSeq, tIfS, tOp, tVar, tC, tCB, tCons, tNil, rI0, rI, tTest, tRet, tRetN, tNext, tAsg, gName, gNil, gCons, gTup, gUnl, tLst, tTup, tCall, tMeth, tMake, tUn, rU, tAndV, tOrV, tNotV, tAnd, tOr, tNot, tIf, tB, tFld, tDrop, tPar, tNever, tBM, rAppend, tSl, tPart, tNoPart, tM1, tyLst, List.getElem?_cons_zero, List.getElem?_cons_succ, Option.some.injEq, exists_eq_left', exists_eq_left, V.int.injEq, V.bl.injEq, V.str.injEq, V.ref.injEq, List.set_cons_zero, List.set_cons_succ, exists_and_left, exists_and_right, and_assoc, List.cons.injEq, and_true, true_and, List.cons_append, List.nil_append, List.append_nil, List.length_cons, List.length_nil, exists_eq', exists_eq, exists_const, exists_eq_right, exists_eq_right', cxK, Cx.nox, Cx.wish]
    refine ⟨_, .inl hs, ?_⟩
    rw [List.length_map]
    refine ite2 (fun hk => ?_) (fun hk => ?_)
    · have hk := of_decide_eq_true hk
      simp only [rIxL, tSeq, tIfS, tOp, tVar, tC, tCB, tCons, tNil, rI0, rI, tTest, tRet, tRetN, tNext, tAsg, gName, gNil, gCons, gTup, gUnl, tLst, tTup, tCall, tMeth, tMake, tUn, rU, tAndV, tOrV, tNotV, tAnd, tOr, tNot, tIf, tB, tFld, tDrop, tPar, tNever, tBM, rAppend, tSl, tPart, tNoPart, tM1, tyLst, List.getElem?_cons_zero, List.getElem?_cons_succ, Option.some.injEq, exists_eq_left', exists_eq_left, V.int.injEq, V.bl.injEq, V.str.injEq, V.ref.injEq, List.set_cons_zero, List.set_cons_succ, exists_and_left, exists_and_right, and_assoc, List.cons.injEq, and_true, true_and, List.cons_append, List.nil_append, List.append_nil, List.length_cons, List.length_nil, exists_eq', exists_eq, exists_const, exists_eq_right, exists_eq_right', cxK, Cx.nox, Cx.wish]
      obtain ⟨v, hv, e⟩ := atI_lt (xs := ns) h0 hk
      exact ⟨_, hs, .int v, atI_map e, q v⟩
    · refine for_listI (a := l) (xs := ns.map V.int) rfl hs (fun i σ H' => H' = H ∧ ∃ (b : Int) (v : Option V), σ = [some (V.ref l), some (V.int k), some (V.int b), v] ∧ b.natAbs < 2 ^ 62) ⟨rfl, 17, none, rfl, by decide⟩ (fun i σ H' _ hh => hh.1 ▸ hs) ?_ ?_
      · rintro i x σ H' hx ⟨rfl, b, v, rfl, hb⟩
        obtain ⟨z, rfl⟩ : ∃ z, x = V.int z := by
          obtain ⟨z, _, e⟩ := List.mem_map.mp (List.mem_of_getElem? hx)
          exact ⟨z, e.symm⟩
        simp only [tSeq, tIfS, tOp, tVar, tC, tCB, tCons, tNil, rI0, rI, tTest, tRet, tRetN, tNext, tAsg, gName, gNil, gCons, gTup, gUnl, tLst, tTup, tCall, tMeth, tMake, tUn, rU, tAndV, tOrV, tNotV, tAnd, tOr, tNot, tIf, tB, tFld, tDrop, tPar, tNever, tBM, rAppend, tSl, tPart, tNoPart, tM1, tyLst, List.getElem?_cons_zero, List.getElem?_cons_succ, Option.some.injEq, exists_eq_left', exists_eq_left, V.int.injEq, V.bl.injEq, V.str.injEq, V.ref.injEq, List.set_cons_zero, List.set_cons_succ, exists_and_left, exists_and_right, and_assoc, List.cons.injEq, and_true, true_and, List.cons_append, List.nil_append, List.append_nil, List.length_cons, List.length_nil, exists_eq', exists_eq, exists_const, exists_eq_right, exists_eq_right', cxK, Cx.nox, Cx.wish]
        exact ⟨mulW64 (by omega) (by decide), by decide, by omega⟩
      · rintro σ H' ⟨rfl, b, v, rfl, hb⟩
        simp only [tSeq, tIfS, tOp, tVar, tC, tCB, tCons, tNil, rI0, rI, tTest, tRet, tRetN, tNext, tAsg, gName, gNil, gCons, gTup, gUnl, tLst, tTup, tCall, tMeth, tMake, tUn, rU, tAndV, tOrV, tNotV, tAnd, tOr, tNot, tIf, tB, tFld, tDrop, tPar, tNever, tBM, rAppend, tSl, tPart, tNoPart, tM1, tyLst, List.getElem?_cons_zero, List.getElem?_cons_succ, Option.some.injEq, exists_eq_left', exists_eq_left, V.int.injEq, V.bl.injEq, V.str.injEq, V.ref.injEq, List.set_cons_zero, List.set_cons_succ, exists_and_left, exists_and_right, and_assoc, List.cons.injEq, and_true, true_and, List.cons_append, List.nil_append, List.append_nil, List.length_cons, List.length_nil, exists_eq', exists_eq, exists_const, exists_eq_right, exists_eq_right', cxK, Cx.nox, Cx.wish]
        refine ⟨mulW64 (by omega) (by omega), mulWn 128 64 ?_ (by decide) (by decide) (by decide) (by decide), by decide, q _⟩
        exact mul_lt 64 64 (by omega) (by omega)

/-! ### _law_digits -/
def spDigits (K : PySem.W.Frag) : Sp := fun vs H Q _ => ∃ (l z : Addr) (ns szs : List Int) (k : Int), vs = [.ref l, .int k, .ref z] ∧ SqL K H l (ns.map V.int) ∧ ns.length ≤ 63 ∧ 0 ≤ k ∧ k < 1000000 ∧ SqL K H z (szs.map V.int) ∧ szs.length ≤ 64 ∧ (∀ y ∈ szs, 0 < y ∧ y < 1073741824) ∧
  ∀ (ds : List Int) (p : Addr), Drawn ds szs → H p = none → Q (.ref p) (upd H p (.lst (ds.map V.int)))
theorem ok_l_digits (T : Tx a K mg w) : FnOk P w K mg base CX0 2 a.f_l_digits a.d_l_digits ps_l_digits (spDigits K) := by
  refine T.F_l_digits.ok sc_l_digits (fun vs H Q E h => ?_) (fun cdv A outer s H vs Q E hr h => ?_)
  · obtain ⟨l, z, ns, szs, k, rfl, _⟩ := h
    rfl
  · obtain ⟨l, z, ns, szs, k, rfl, hs, hn, h0, h1, hz, hzl, hzb, q⟩ := h
    have G_l_cell := ok_l_cell (P := P) (w := w) (base := base) T
    have B_l_cell := bnd_l_cell T
    have hr_l_cell : Room 1 _ := hr
    refine ⟨_, (pss_cons (ps_set (i := 3) sc_l_digits.nd rfl (by first | exact Or.inl rfl | exact Or.inr rfl) (pe_call G_l_cell hr_l_cell (by rfl) T.mg_l_cell T.F_l_cell.kp B_l_cell .nil pass0 (pa_cons (pv 0) (pa_cons (pv 1) pa_nil))))
      (pss_cons (ps_set (i := 4) sc_l_digits.nd rfl (by first | exact Or.inl rfl | exact Or.inr rfl) (pe_lst pa_nil))
      (pss_cons (ps_if (pt_cmpR op_ge (pv 3) (pe_op op_pow pe_int pe_int) (nomark _)) (pss_cons (ps_set (i := 5) sc_l_digits.nd rfl (by first | exact Or.inl rfl | exact Or.inr rfl) (pe_op op_sub (pv 3) (pe_op op_pow pe_int pe_int)))
        (pss_cons (ps_for PassesOwn.never rfl (pi_list (pv 2)) (pg_name (i := 6) sc_l_digits.nd rfl (by first | exact Or.inl rfl | exact Or.inr rfl))
          (pss_cons (ps_expr (pe_bm PySem.F.plainAttrs_list PySem.F.slot_list_append PySem.F.type_list_append mt_append (pv 4) (pa_cons (pe_op op_mod (pv 5) (pv 6)) pa_nil)))
          (pss_one (ps_set (i := 5) sc_l_digits.nd rfl (by first | exact Or.inl rfl | exact Or.inr rfl) (pe_op op_fdivA (pv 5) (pv 6))))))
        (pss_one (ps_ret (pv 4))))) pss_nil)
      (pss_cons (ps_set (i := 7) sc_l_digits.nd rfl (by first | exact Or.inl rfl | exact Or.inr rfl) (pe_op op_mod (pv 3) pe_int))
      (pss_cons (ps_for PassesOwn.never rfl (pi_range1 rfl T.no_range (pa_cons (pe_callB call_len_seq (by rfl) T.no_len (by decide +kernel) (pa_cons (pv 2) pa_nil)) pa_nil)) (pg_name (i := 8) sc_l_digits.nd rfl (by first | exact Or.inl rfl | exact Or.inr rfl))
        (pss_cons (ps_set (i := 7) sc_l_digits.nd rfl (by first | exact Or.inl rfl | exact Or.inr rfl) (pe_op op_mod (pe_op op_add (pe_op op_mulW (pv 7) pe_int) (pe_op op_mulW pe_int (pe_op op_add (pv 8) pe_int))) pe_int))
        (pss_cons (ps_set (i := 9) sc_l_digits.nd rfl (by first | exact Or.inl rfl | exact Or.inr rfl) (pe_op op_mod (pe_op op_add (pe_op op_add (pe_op op_mulW (pv 7) (pv 7)) (pe_op op_mulW pe_int (pv 7))) (pv 8)) pe_int))
        (pss_one (ps_expr (pe_bm PySem.F.plainAttrs_list PySem.F.slot_list_append PySem.F.type_list_append mt_append (pv 4) (pa_cons (pe_op op_mod (pe_op op_fdivA (pv 9) pe_int) (pe_ix ix_list (pv 2) (pv 8) (fun _ _ => rfl))) pa_nil)))))))
      (pss_one (ps_ret (pv 4)))))))), ?_⟩
    show tSeq _ _ _ [some (V.ref l), some (V.int k), some (V.ref z), none, none, none, none, none, none, none] H
    simp only [tSeq, tIfS, tOp, tVar, tC, tCB, tCons, tNil, rI0, rI, tTest, tRet, tRetN, tNext, tAsg, gName, gNil, gCons, gTup, gUnl, tLst, tTup, tCall, tMeth, tMake, tUn, rU, tAndV, tOrV, tNotV, tAnd, tOr, tNot, tIf, tB, tFld, tDrop, tPar, tNever, tBM, rAppend, tSl, tPart, tNoPart, tM1, tyLst, List.getElem?_cons_zero, List.getElem?_cons_succ, Option.some.injEq, exists_eq_left', exists_eq_left, V.int.injEq, V.bl.injEq, V.str.injEq, V.ref.injEq, List.set_cons_zero, List.set_cons_succ, exists_and_left, exists_and_right, and_assoc, List.cons.injEq, and_true, true_and, List.cons_append, List.nil_append, List.append_nil, List.length_cons, List.length_nil, exists_eq', exists_eq, exists_const, exists_eq_right, exists_eq_right', cxK, Cx.nox, Cx.wish]
    refine ⟨l, ns, k, rfl, hs, hn, h0, h1, fun c => ?_⟩
    refine ⟨by decide, fun p hp => ?_⟩
    have key : ∀ (y : Int) (ds : List Int) (i : Nat), szs[i]? = some y → Drawn ds (szs.take i) → ∀ d : Int, 0 ≤ d → d < y → Drawn (ds ++ [d]) (szs.take (i + 1)) := fun y ds i hy hd d h1 h2 => by
      rw [take_snoc hy]
      exact PySem.Paired.snoc hd ⟨h1, h2⟩
    have dl : ∀ {ds : List Int} {i : Nat}, Drawn ds (szs.take i) → ds.length < sizeLine := fun {ds i} hd => by
      have h1 : ds.length = (szs.take i).length := Paired.length hd
      rw [List.length_take] at h1
      have h2 : sizeLine = 16777216 := rfl
      omega
    have hpz : ∀ u, SqL K (upd H p u) z (szs.map V.int) := fun u => seqL hz (Ext.upd hp)
    simp only [tSeq, tIfS, tOp, tVar, tC, tCB, tCons, tNil, rI0, rI, tTest, tRet, tRetN, tNext, tAsg, gName, gNil, gCons, gTup, gUnl, tLst, tTup, tCall, tMeth, tMake, tUn, rU, tAndV, tOrV, tNotV, tAnd, tOr, tNot, tIf, tB, tFld, tDrop, tPar, tNever, tBM, rAppend, tSl, tPart, tNoPart, tM1, tyLst, List.getElem?_cons_zero, List.getElem?_cons_succ, Option.some.injEq, exists_eq_left', exists_eq_left, V.int.injEq, V.bl.injEq, V.str.injEq, V.ref.injEq, List.set_cons_zero, List.set_cons_succ, exists_and_left, exists_and_right, and_assoc, List.cons.injEq, and_true, true_and, List.cons_append, List.nil_append, List.append_nil, List.length_cons, List.length_nil, exists_eq', exists_eq, exists_const, exists_eq_right, exists_eq_right', cxK, Cx.nox, Cx.wish]
    refine ⟨⟨by decide, by decide, by decide⟩, ite2 (fun hb => ?_) (fun hb => ?_)⟩
    · refine ⟨⟨by decide, by decide, by decide⟩, ?_⟩
      refine for_listI (a := z) (xs := szs.map V.int) rfl (hpz _) (fun i σ H' => ∃ (r : Int) (v : Option V) (ds : List Int), σ = [some (V.ref l), some (V.int k), some (V.ref z), some (V.int c), some (V.ref p), some (V.int r), v, none, none, none] ∧ H' = upd H p (.lst (ds.map V.int)) ∧ Drawn ds (szs.take i))
        ⟨_, none, [], rfl, rfl, .nil⟩ (fun i σ H' _ ⟨_, _, _, _, hh, _⟩ => hh ▸ hpz _) ?_ ?_
      · rintro i x σ H' hx ⟨r, v, ds, rfl, rfl, hd⟩
        obtain ⟨y, hy, rfl⟩ : ∃ y, szs[i]? = some y ∧ x = V.int y := by
          rw [List.getElem?_map] at hx
          cases e : szs[i]? with
          | none => rw [e] at hx; cases hx
          | some y => rw [e] at hx; exact ⟨y, rfl, (Option.some.inj hx).symm⟩
        have hyb := hzb y (List.mem_of_getElem? hy)
        simp only [tSeq, tIfS, tOp, tVar, tC, tCB, tCons, tNil, rI0, rI, tTest, tRet, tRetN, tNext, tAsg, gName, gNil, gCons, gTup, gUnl, tLst, tTup, tCall, tMeth, tMake, tUn, rU, tAndV, tOrV, tNotV, tAnd, tOr, tNot, tIf, tB, tFld, tDrop, tPar, tNever, tBM, rAppend, tSl, tPart, tNoPart, tM1, tyLst, List.getElem?_cons_zero, List.getElem?_cons_succ, Option.some.injEq, exists_eq_left', exists_eq_left, V.int.injEq, V.bl.injEq, V.str.injEq, V.ref.injEq, List.set_cons_zero, List.set_cons_succ, exists_and_left, exists_and_right, and_assoc, List.cons.injEq, and_true, true_and, List.cons_append, List.nil_append, List.append_nil, List.length_cons, List.length_nil, exists_eq', exists_eq, exists_const, exists_eq_right, exists_eq_right', cxK, Cx.nox, Cx.wish]
        refine ⟨tyLst upd_same, hyb.1, _, upd_same, by rw [List.length_map]; exact dl hd, divA_of 64 (by omega) (by omega) (by decide) (by decide), ds ++ [r % y], ?_, key y ds i hy hd _ (Int.emod_nonneg _ (by omega)) (Int.emod_lt_of_pos _ hyb.1)⟩
        rw [upd_upd, List.map_append]
        rfl
      · rintro σ H' ⟨r, v, ds, rfl, rfl, hd⟩
        simp only [tSeq, tIfS, tOp, tVar, tC, tCB, tCons, tNil, rI0, rI, tTest, tRet, tRetN, tNext, tAsg, gName, gNil, gCons, gTup, gUnl, tLst, tTup, tCall, tMeth, tMake, tUn, rU, tAndV, tOrV, tNotV, tAnd, tOr, tNot, tIf, tB, tFld, tDrop, tPar, tNever, tBM, rAppend, tSl, tPart, tNoPart, tM1, tyLst, List.getElem?_cons_zero, List.getElem?_cons_succ, Option.some.injEq, exists_eq_left', exists_eq_left, V.int.injEq, V.bl.injEq, V.str.injEq, V.ref.injEq, List.set_cons_zero, List.set_cons_succ, exists_and_left, exists_and_right, and_assoc, List.cons.injEq, and_true, true_and, List.cons_append, List.nil_append, List.append_nil, List.length_cons, List.length_nil, exists_eq', exists_eq, exists_const, exists_eq_right, exists_eq_right', cxK, Cx.nox, Cx.wish]
        rw [List.length_map, List.take_length] at hd
        exact q ds p hd hp
    · refine ⟨by decide, ?_⟩
      refine for_rangeI (n := (szs.length : Int)) (fun R r => ?_) (by omega) (by omega) (fun i σ H' => ∃ (o : Int) (v u : Option V) (ds : List Int), σ = [some (V.ref l), some (V.int k), some (V.ref z), some (V.int c), some (V.ref p), none, none, some (V.int o), v, u] ∧ o.natAbs < 2 ^ 31 ∧ H' = upd H p (.lst (ds.map V.int)) ∧ Drawn ds (szs.take i))
        ⟨_, none, none, [], rfl, by omega, rfl, .nil⟩ ?_ ?_
      · simp only [tSeq, tIfS, tOp, tVar, tC, tCB, tCons, tNil, rI0, rI, tTest, tRet, tRetN, tNext, tAsg, gName, gNil, gCons, gTup, gUnl, tLst, tTup, tCall, tMeth, tMake, tUn, rU, tAndV, tOrV, tNotV, tAnd, tOr, tNot, tIf, tB, tFld, tDrop, tPar, tNever, tBM, rAppend, tSl, tPart, tNoPart, tM1, tyLst, List.getElem?_cons_zero, List.getElem?_cons_succ, Option.some.injEq, exists_eq_left', exists_eq_left, V.int.injEq, V.bl.injEq, V.str.injEq, V.ref.injEq, List.set_cons_zero, List.set_cons_succ, exists_and_left, exists_and_right, and_assoc, List.cons.injEq, and_true, true_and, List.cons_append, List.nil_append, List.append_nil, List.length_cons, List.length_nil, exists_eq', exists_eq, exists_const, exists_eq_right, exists_eq_right', cxK, Cx.nox, Cx.wish]
        refine ⟨_, .inl (hpz _), ?_⟩
        rw [List.length_map]
        exact r
      · rintro i σ H' hi ⟨o, v, u, ds, rfl, ho, rfl, hd⟩
        rw [Int.toNat_natCast] at hi
        have hy : szs[i]? = some szs[i] := List.getElem?_eq_getElem hi
        have hyb := hzb szs[i] (List.getElem_mem hi)
        have hat : atI (szs.map V.int) (0 + (i : Int)) = some (V.int szs[i]) := by
          rw [Int.zero_add]
          exact atI_map (Own.atI_nat hy)
        simp only [rIxL, tSeq, tIfS, tOp, tVar, tC, tCB, tCons, tNil, rI0, rI, tTest, tRet, tRetN, tNext, tAsg, gName, gNil, gCons, gTup, gUnl, tLst, tTup, tCall, tMeth, tMake, tUn, rU, tAndV, tOrV, tNotV, tAnd, tOr, tNot, tIf, tB, tFld, tDrop, tPar, tNever, tBM, rAppend, tSl, tPart, tNoPart, tM1, tyLst, List.getElem?_cons_zero, List.getElem?_cons_succ, Option.some.injEq, exists_eq_left', exists_eq_left, V.int.injEq, V.bl.injEq, V.str.injEq, V.ref.injEq, List.set_cons_zero, List.set_cons_succ, exists_and_left, exists_and_right, and_assoc, List.cons.injEq, and_true, true_and, List.cons_append, List.nil_append, List.append_nil, List.length_cons, List.length_nil, exists_eq', exists_eq, exists_const, exists_eq_right, exists_eq_right', cxK, Cx.nox, Cx.wish]
        refine ⟨mulW64 (by omega) (by decide), mulW64 (by decide) (by omega), by decide, mulW64 (by omega) (by omega), mulW64 (by decide) (by omega), by decide, tyLst upd_same, divA_of 64 (by decide) (by decide) (by decide) (by decide), _, hpz _, _, hat, ?_⟩
        refine ⟨_, rfl, hyb.1, _, upd_same, by rw [List.length_map]; exact dl hd, by omega, ?_⟩
        generalize hX : Int.fdiv _ 11 = x
        refine ⟨ds ++ [x % szs[i]], ?_, key _ ds i hy hd _ (Int.emod_nonneg _ (by omega)) (Int.emod_lt_of_pos _ hyb.1)⟩
        rw [upd_upd, List.map_append]
        rfl
      · rintro σ H' ⟨o, v, u, ds, rfl, ho, rfl, hd⟩
        simp only [tSeq, tIfS, tOp, tVar, tC, tCB, tCons, tNil, rI0, rI, tTest, tRet, tRetN, tNext, tAsg, gName, gNil, gCons, gTup, gUnl, tLst, tTup, tCall, tMeth, tMake, tUn, rU, tAndV, tOrV, tNotV, tAnd, tOr, tNot, tIf, tB, tFld, tDrop, tPar, tNever, tBM, rAppend, tSl, tPart, tNoPart, tM1, tyLst, List.getElem?_cons_zero, List.getElem?_cons_succ, Option.some.injEq, exists_eq_left', exists_eq_left, V.int.injEq, V.bl.injEq, V.str.injEq, V.ref.injEq, List.set_cons_zero, List.set_cons_succ, exists_and_left, exists_and_right, and_assoc, List.cons.injEq, and_true, true_and, List.cons_append, List.nil_append, List.append_nil, List.length_cons, List.length_nil, exists_eq', exists_eq, exists_const, exists_eq_right, exists_eq_right', cxK, Cx.nox, Cx.wish]
        rw [Int.toNat_natCast, List.take_length] at hd
        exact q ds p hd hp

/-! ### _law_same, on data -/
def spSameD (K : PySem.W.Frag) : Sp := fun vs H Q _ => ∃ (x y : V) (d : PyData), vs = [x, y] ∧ Dp K H x d ∧ Dp K H y d ∧ Neat d ∧ Q (.bl true) H
theorem ok_l_same (T : Tx a K mg w) : FnG P w K mg base CX0 2 a.f_l_same a.d_l_same ps_l_same (spSameD K) := by
  refine okG T.F_l_same sc_l_same (fun vs H Q E h => ?_) (fun cdv A outer s H vs Q E hgd hr h => ?_)
  · obtain ⟨x, y, d, rfl, _⟩ := h
    rfl
  · obtain ⟨x, y, d, rfl, hx, hy, nt, q⟩ := h
    refine ⟨_, (pss_cons (ps_if (pt_val (pe_callB call_isi (by rfl) T.no_isinstance (by decide +kernel) (pa_cons (pv 1) (pa_cons (pe_bltn (v := V.ty "dict") (by rfl) T.no_dict (by decide +kernel) rfl) pa_nil)))) (pss_one ps_never) pss_nil)
      (pss_one (ps_ret (pe_and (pe_cmpR (op_eqD hr.units) (pv 0) (pv 1) (nomark _)) (pe_one (pe_cmpR op_eq (pe_callB (call_reprD hgd (hr.mono (by decide))) (by rfl) T.no_repr (by decide +kernel) (pa_cons (pv 0) pa_nil)) (pe_callB (call_reprD hgd (hr.mono (by decide))) (by rfl) T.no_repr (by decide +kernel) (pa_cons (pv 1) pa_nil)) (nomark _))))))), ?_⟩
    show tSeq _ _ _ [some x, some y] H
    obtain ⟨n, hn, hk⟩ := ty_data hy
    simp only [rIsi, rEqD, rReprD, rEq, tSeq, tIfS, tOp, tVar, tC, tCB, tCons, tNil, rI0, rI, tTest, tRet, tRetN, tNext, tAsg, gName, gNil, gCons, gTup, gUnl, tLst, tTup, tCall, tMeth, tMake, tUn, rU, tAndV, tOrV, tNotV, tAnd, tOr, tNot, tIf, tB, tFld, tDrop, tPar, tNever, tBM, rAppend, tSl, tPart, tNoPart, tM1, tyLst, List.getElem?_cons_zero, List.getElem?_cons_succ, Option.some.injEq, exists_eq_left', exists_eq_left, V.int.injEq, V.bl.injEq, V.str.injEq, V.ref.injEq, List.set_cons_zero, List.set_cons_succ, exists_and_left, exists_and_right, and_assoc, List.cons.injEq, and_true, true_and, List.cons_append, List.nil_append, List.append_nil, List.length_cons, List.length_nil, exists_eq', exists_eq, exists_const, exists_eq_right, exists_eq_right', cxK, Cx.nox, Cx.wish]
    refine ⟨_, _, .ty "dict", hn, false, hk, iteF ?_⟩
    refine ⟨d, hx, d, hy, nt.shaped, nt.shaped, ?_⟩
    rw [if_pos nt.refl]
    refine ⟨d, hx, nt.show_, nt.noDict, nt.deep, nt.len, d, hy, nt.show_, nt.noDict, nt.deep, nt.len, rfl, ?_⟩
    rw [decide_eq_true rfl]
    exact q

/-! ### _law_names -/
/-- names as a world may have them -/
structure Good (ns : List Str) : Prop where
  each : ∀ n ∈ ns, ∃ k, Let n k ∧ 1 ≤ k ∧ k ≤ 6
  nd : ns.Nodup
def spNames (K : PySem.W.Frag) : Sp := fun vs H Q _ => ∃ (l : Addr) (ns : List Int) (k m : Int), vs = [.ref l, .int k, .int m] ∧ SqL K H l (ns.map V.int) ∧ ns.length ≤ 63 ∧ 0 ≤ k ∧ k < 900000 ∧ 0 ≤ m ∧ m ≤ 12 ∧
  ∀ (zs : List Str) (p : Addr) H', Good zs → (zs.length : Int) = m → Ext H H' → H' p = some (.lst (zs.map V.str)) → H p = none → Q (.ref p) H'
theorem ok_l_names (T : Tx a K mg w) : FnOk P w K mg base CX0 3 a.f_l_names a.d_l_names ps_l_names (spNames K) := by
  refine T.F_l_names.ok sc_l_names (fun vs H Q E h => ?_) (fun cdv A outer s H vs Q E hr h => ?_)
  · obtain ⟨l, ns, k, m, rfl, _⟩ := h
    rfl
  · obtain ⟨l, ns, k, m, rfl, hs, hn, h0, h1, m0, m1, q⟩ := h
    have G_l_digits := ok_l_digits (P := P) (w := w) (base := base) T
    have B_l_digits := bnd_l_digits T
    have hr_l_digits : Room 2 _ := hr.mono (by decide)
    refine ⟨_, (pss_cons (ps_asg (pe_tup (pa_cons (pe_lst pa_nil) (pa_cons pe_str pa_nil))) (pg_tup rfl (pgs_cons (pg_name (i := 3) sc_l_names.nd rfl (by first | exact Or.inl rfl | exact Or.inr rfl)) (pgs_cons (pg_name (i := 4) sc_l_names.nd rfl (by first | exact Or.inl rfl | exact Or.inr rfl)) pgs_nil)) (by rfl)))
      (pss_cons (ps_for PassesOwn.never rfl (pi_range1 rfl T.no_range (pa_cons (pv 2) pa_nil)) (pg_name (i := 5) sc_l_names.nd rfl (by first | exact Or.inl rfl | exact Or.inr rfl))
        (pss_cons (ps_asg (pe_call G_l_digits hr_l_digits (by rfl) T.mg_l_digits T.F_l_digits.kp B_l_digits .nil pass0 (pa_cons (pv 0) (pa_cons (pe_op op_add (pv 1) (pe_op op_mod (pv 5) pe_int)) (pa_cons (pe_lst (pa_cons pe_int (pa_cons pe_int (pa_cons pe_int (pa_cons pe_int pa_nil))))) pa_nil)))) (pg_unl rfl (pgs_cons (pg_name (i := 6) sc_l_names.nd rfl (by first | exact Or.inl rfl | exact Or.inr rfl)) (pgs_cons (pg_name (i := 7) sc_l_names.nd rfl (by first | exact Or.inl rfl | exact Or.inr rfl)) (pgs_cons (pg_name (i := 8) sc_l_names.nd rfl (by first | exact Or.inl rfl | exact Or.inr rfl)) (pgs_cons (pg_name (i := 9) sc_l_names.nd rfl (by first | exact Or.inl rfl | exact Or.inr rfl)) pgs_nil)))) (by rfl)))
        (pss_cons (ps_set (i := 10) sc_l_names.nd rfl (by first | exact Or.inl rfl | exact Or.inr rfl) (pe_joinN pe_str (pe_lc (own := [("_law_i", 12)]) rfl sc_l_names.nd (pi_range1 rfl T.no_range (pa_cons (pv 8) pa_nil)) (blkOk_by (own := [("_law_i", 12)]) (N := N_l_names) (sc := defScope s_l_names) (by decide +kernel)) (fun _ _ _ _ _ => (pg_name (i := 12) sc_l_names.nd rfl (Or.inl rfl))) (fun _ _ _ _ _ => pts_nil) (fun _ _ _ _ _ => (pe_ix ix_str (pv 4) (pe_op op_mod (pe_op op_add (pe_op op_add (pv 6) (pe_op op_mulW (pv 12) (pv 7))) (pe_op op_mulW pe_int (pv 5))) pe_int) (fun _ _ => rfl))))))
        (pss_cons (ps_set (i := 11) sc_l_names.nd rfl (by first | exact Or.inl rfl | exact Or.inr rfl) (pe_op op_add_str (pe_op op_add_str (pe_slice sl_str (pv 10) po_none (po_some (pv 9))) (pe_ix ix_str (pv 4) (pe_op op_mod (pe_op op_add (pe_op op_add (pv 6) (pe_op op_mulW pe_int (pv 5))) pe_int) pe_int) (fun _ _ => rfl))) (pe_slice sl_str (pv 10) (po_some (pv 9)) po_none)))
        (pss_cons (ps_if (pt_cmpR op_in_seq (pv 11) (pv 3) (by rfl)) (pss_one (ps_set (i := 11) sc_l_names.nd rfl (by first | exact Or.inl rfl | exact Or.inr rfl) (pe_ix ix_list (pe_lc (own := [("_law_tail", 13)]) rfl sc_l_names.nd (pi_str pe_str) (blkOk_by (own := [("_law_tail", 13)]) (N := N_l_names) (sc := defScope s_l_names) (by decide +kernel)) (fun _ _ _ _ _ => (pg_name (i := 13) sc_l_names.nd rfl (Or.inl rfl))) (fun _ _ _ _ _ => (pts_one (pt_cmpR (notInK (K := K) rfl) (pe_op op_add_str (pe_op op_add_str pe_str (pe_ix ix_str (pv 4) (pv 5) (fun _ _ => rfl))) (pv 13)) (pv 3) (by rfl)))) (fun _ _ _ _ _ => (pe_op op_add_str (pe_op op_add_str pe_str (pe_ix ix_str (pv 4) (pv 5) (fun _ _ => rfl))) (pv 13)))) pe_int (fun _ _ => rfl)))) pss_nil)
        (pss_one (ps_expr (pe_bm PySem.F.plainAttrs_list PySem.F.slot_list_append PySem.F.type_list_append mt_append (pv 3) (pa_cons (pv 11) pa_nil)))))))))
      (pss_one (ps_ret (pv 3))))), ?_⟩
    show tSeq _ _ _ (L2.start N_l_names _) H
    refine seq_i fun N hN => ?_
    simp only [tSeq, tIfS, tOp, tVar, tC, tCB, tCons, tNil, rI0, rI, tTest, tRet, tRetN, tNext, tAsg, gName, gNil, gCons, gTup, gUnl, tLst, tTup, tCall, tMeth, tMake, tUn, rU, tAndV, tOrV, tNotV, tAnd, tOr, tNot, tIf, tB, tFld, tDrop, tPar, tNever, tBM, rAppend, tSl, tPart, tNoPart, tM1, tyLst, List.getElem?_cons_zero, List.getElem?_cons_succ, Option.some.injEq, exists_eq_left', exists_eq_left, V.int.injEq, V.bl.injEq, V.str.injEq, V.ref.injEq, List.set_cons_zero, List.set_cons_succ, exists_and_left, exists_and_right, and_assoc, List.cons.injEq, and_true, true_and, List.cons_append, List.nil_append, List.append_nil, List.length_cons, List.length_nil, exists_eq', exists_eq, exists_const, exists_eq_right, exists_eq_right', cxK, Cx.nox, Cx.wish]
    refine ⟨by decide, fun pf hpf => ⟨by decide, fun pt hpt => ?_⟩⟩
    generalize hH1 : upd H pf _ = H1 at hpt ⊢
    obtain ⟨e1, f1⟩ := alloc hpf hH1
    generalize hH2 : upd H1 pt _ = H2
    obtain ⟨e2, f2⟩ := alloc hpt hH2
    refine ⟨_, ofT f2, rfl, _, _, rfl, _, _, rfl, rfl, hN _ _ ?_⟩
    clear hN N
    have eH2 : Ext H H2 := e1.trans e2
    have fp2 : H2 pf = some (.lst []) := e2 _ _ f1
    clear hH1 hH2 f2 hpt e1 e2 f1
    refine seq_i fun N hN => ?_
    refine for_rangeI (n := m) (fun R r => ⟨_, rfl, r⟩) m0 (by omega) (fun j σ H' => (∃ v5 v6 v7 v8 v9 v10 v11 v12 v13, σ = [some (V.ref l), some (V.int k), some (V.int m), some (V.ref pf), some (V.str abc), v5, v6, v7, v8, v9, v10, v11, v12, v13]) ∧
        Ext H H' ∧ ∃ zs : List Str, Good zs ∧ zs.length = j ∧ H' pf = some (.lst (zs.map V.str)))
      ⟨⟨none, none, none, none, none, none, none, none, none, rfl⟩, eH2, [], ⟨fun n hn => absurd hn List.not_mem_nil, List.nodup_nil⟩, rfl, fp2⟩ ?_ ?_
    · rintro j σ H3 hj ⟨⟨v5, v6, v7, v8, v9, v10, v11, v12, v13, rfl⟩, eH, zs, hg, hl, hf⟩
      have hjm : (j : Int) < m := by omega
      show tSeq _ _ _ [some (V.ref l), some (V.int k), some (V.int m), some (V.ref pf), some (V.str abc), some (V.int (0 + (j : Int))), v6, v7, v8, v9, v10, v11, v12, v13] H3
      clear hN
      refine seq_i fun N2 hN2 => ?_
      simp only [tSeq, tIfS, tOp, tVar, tC, tCB, tCons, tNil, rI0, rI, tTest, tRet, tRetN, tNext, tAsg, gName, gNil, gCons, gTup, gUnl, tLst, tTup, tCall, tMeth, tMake, tUn, rU, tAndV, tOrV, tNotV, tAnd, tOr, tNot, tIf, tB, tFld, tDrop, tPar, tNever, tBM, rAppend, tSl, tPart, tNoPart, tM1, tyLst, List.getElem?_cons_zero, List.getElem?_cons_succ, Option.some.injEq, exists_eq_left', exists_eq_left, V.int.injEq, V.bl.injEq, V.str.injEq, V.ref.injEq, List.set_cons_zero, List.set_cons_succ, exists_and_left, exists_and_right, and_assoc, List.cons.injEq, and_true, true_and, List.cons_append, List.nil_append, List.append_nil, List.length_cons, List.length_nil, exists_eq', exists_eq, exists_const, exists_eq_right, exists_eq_right', cxK, Cx.nox, Cx.wish]
      refine ⟨by decide, by decide, fun ps hps => ?_⟩
      generalize hH4 : upd H3 ps _ = H4
      obtain ⟨e4, f4⟩ := alloc hps hH4
      refine ⟨l, ps, ns, [26, 26, 6, 5], _, rfl, seqL hs (eH.trans e4), hn, by omega, by omega, ofL f4, (by decide), (by decide), fun ds pd hd hpd => ?_⟩
      obtain ⟨one, two, size, place, rfl, ⟨o0, o1⟩, ⟨w0, w1⟩, ⟨s0, s1⟩, ⟨q0, q1⟩⟩ := drawn4 hd
      generalize hH5 : upd H4 pd _ = H5
      obtain ⟨e5, f5⟩ := alloc hpd hH5
      refine ⟨pd, rfl, _, ofL f5, rfl, ?_⟩
      simp only [List.map_cons, List.map_nil, tSeq, tIfS, tOp, tVar, tC, tCB, tCons, tNil, rI0, rI, tTest, tRet, tRetN, tNext, tAsg, gName, gNil, gCons, gTup, gUnl, tLst, tTup, tCall, tMeth, tMake, tUn, rU, tAndV, tOrV, tNotV, tAnd, tOr, tNot, tIf, tB, tFld, tDrop, tPar, tNever, tBM, rAppend, tSl, tPart, tNoPart, tM1, tyLst, List.getElem?_cons_zero, List.getElem?_cons_succ, Option.some.injEq, exists_eq_left', exists_eq_left, V.int.injEq, V.bl.injEq, V.str.injEq, V.ref.injEq, List.set_cons_zero, List.set_cons_succ, exists_and_left, exists_and_right, and_assoc, List.cons.injEq, and_true, true_and, List.cons_append, List.nil_append, List.append_nil, List.length_cons, List.length_nil, exists_eq', exists_eq, exists_const, exists_eq_right, exists_eq_right', cxK, Cx.nox, Cx.wish]
      refine hN2 _ _ ?_
      clear hN2 N2
      have e35 : Ext H3 H5 := e4.trans e5
      clear hH4 hH5 e4 e5 f4 f5 hps hpd hd
      -- rest
      refine seq_i fun N2 hN2 => ?_
      simp only [rJoinN, tSeq, tIfS, tOp, tVar, tC, tCB, tCons, tNil, rI0, rI, tTest, tRet, tRetN, tNext, tAsg, gName, gNil, gCons, gTup, gUnl, tLst, tTup, tCall, tMeth, tMake, tUn, rU, tAndV, tOrV, tNotV, tAnd, tOr, tNot, tIf, tB, tFld, tDrop, tPar, tNever, tBM, rAppend, tSl, tPart, tNoPart, tM1, tyLst, List.getElem?_cons_zero, List.getElem?_cons_succ, Option.some.injEq, exists_eq_left', exists_eq_left, V.int.injEq, V.bl.injEq, V.str.injEq, V.ref.injEq, List.set_cons_zero, List.set_cons_succ, exists_and_left, exists_and_right, and_assoc, List.cons.injEq, and_true, true_and, List.cons_append, List.nil_append, List.append_nil, List.length_cons, List.length_nil, exists_eq', exists_eq, exists_const, exists_eq_right, exists_eq_right', cxK, Cx.nox, Cx.wish]
      refine tLc_i (J := Itr 0 size.toNat) (fun R r => ⟨_, rfl, _, rfl, by omega, by omega, r⟩) walk_range fun D hD => ?_
      refine ⟨fun i H' => ∃ ys : List Str, H' = upd H5 D (.lst (ys.map V.str)) ∧ ys.length = i ∧ ∀ y ∈ ys, Let y 1, ⟨[], rfl, rfl, fun y hy => absurd hy List.not_mem_nil⟩, fun _ _ _ _ => trivial, ?_, ?_⟩
      · rintro i x H6 H7 hi ⟨ys, rfl, hy, hall⟩ ⟨rfl, rfl⟩
        have ew : wipe [some (V.ref l), some (V.int k), some (V.int m), some (V.ref pf), some (V.str abc), some (V.int (0 + (j : Int))), some (V.int one), some (V.int two), some (V.int size), some (V.int place), v10, v11, v12, v13] (List.map (fun x => x.snd) [((Str.ofString "_law_i" : Str), 12)]) =
          [some (V.ref l), some (V.int k), some (V.int m), some (V.ref pf), some (V.str abc), some (V.int (0 + (j : Int))), some (V.int one), some (V.int two), some (V.int size), some (V.int place), v10, v11, none, v13] := rfl
        refine ⟨rfl, ?_⟩
        simp only [ew, tYes, rIxS, tSeq, tIfS, tOp, tVar, tC, tCB, tCons, tNil, rI0, rI, tTest, tRet, tRetN, tNext, tAsg, gName, gNil, gCons, gTup, gUnl, tLst, tTup, tCall, tMeth, tMake, tUn, rU, tAndV, tOrV, tNotV, tAnd, tOr, tNot, tIf, tB, tFld, tDrop, tPar, tNever, tBM, rAppend, tSl, tPart, tNoPart, tM1, tyLst, List.getElem?_cons_zero, List.getElem?_cons_succ, Option.some.injEq, exists_eq_left', exists_eq_left, V.int.injEq, V.bl.injEq, V.str.injEq, V.ref.injEq, List.set_cons_zero, List.set_cons_succ, exists_and_left, exists_and_right, and_assoc, List.cons.injEq, and_true, true_and, List.cons_append, List.nil_append, List.append_nil, List.length_cons, List.length_nil, exists_eq', exists_eq, exists_const, exists_eq_right, exists_eq_right', cxK, Cx.nox, Cx.wish]
        have hq := abc_at (k := (one + (0 + (i : Int)) * two + 3 * (0 + (j : Int))) % 26) (Int.emod_nonneg _ (by decide)) (Int.emod_lt_of_pos _ (by decide))
        refine ⟨mulW64 (by omega) (by omega), mulW64 (by decide) (by omega), by decide, by decide, _, hq.1, _, upd_same, ?_, ys ++ [⟨#[97 + ((one + (0 + (i : Int)) * two + 3 * (0 + (j : Int))) % 26).toNat]⟩], ?_, ?_, ?_⟩
        · rw [List.length_map]
          have : sizeLine = 16777216 := rfl
          omega
        · rw [upd_upd, List.map_append]
          rfl
        · rw [List.length_append, hy]
          rfl
        · intro y hy2
          rcases List.mem_append.mp hy2 with h | h
          · exact hall y h
          · rw [List.mem_singleton.mp h]
            exact Let.one hq.2
      · rintro H6 ⟨ys, rfl, hy, hall⟩
        have hsum : (ys.map (·.length)).sum = ys.length := by
          clear hy
          induction ys with
          | nil => rfl
          | cons y ys ih =>
            rw [List.map_cons, List.sum_cons, ih fun z hz => hall z (List.mem_cons_of_mem _ hz), (hall y List.mem_cons_self).len, List.length_cons]
            omega
        refine ⟨D, rfl, ys, .inl (ofL upd_same), ?_, hN2 _ _ ?_⟩
        · have e0 : (Str.ofString "").length = 0 := by decide +kernel
          show (ys.map (·.length)).sum + ys.length * (Str.ofString "").length ≤ 16777216
          rw [hsum, e0]
          omega
        clear hN2 N2
        have hr0 : Let (PySem.Txt.join (Str.ofString "") ys) ys.length := by
          rw [show Str.ofString "" = Str.empty by decide +kernel]
          exact join_let ys hall
        generalize PySem.Txt.join (Str.ofString "") ys = rest at hr0 ⊢
        have hz : ys.length ≤ 5 := by omega
        generalize ys.length = n5 at hr0 hz
        generalize hH6 : upd H5 D _ = H6
        have e36 : Ext H3 H6 := hH6 ▸ e35.trans (Ext.upd hD)
        clear hH6 hD hsum hall hy ys
        -- name
        refine seq_i fun N2 hN2 => ?_
        simp only [rSlS, rIxS, tSeq, tIfS, tOp, tVar, tC, tCB, tCons, tNil, rI0, rI, tTest, tRet, tRetN, tNext, tAsg, gName, gNil, gCons, gTup, gUnl, tLst, tTup, tCall, tMeth, tMake, tUn, rU, tAndV, tOrV, tNotV, tAnd, tOr, tNot, tIf, tB, tFld, tDrop, tPar, tNever, tBM, rAppend, tSl, tPart, tNoPart, tM1, tyLst, List.getElem?_cons_zero, List.getElem?_cons_succ, Option.some.injEq, exists_eq_left', exists_eq_left, V.int.injEq, V.bl.injEq, V.str.injEq, V.ref.injEq, List.set_cons_zero, List.set_cons_succ, exists_and_left, exists_and_right, and_assoc, List.cons.injEq, and_true, true_and, List.cons_append, List.nil_append, List.append_nil, List.length_cons, List.length_nil, exists_eq', exists_eq, exists_const, exists_eq_right, exists_eq_right', cxK, Cx.nox, Cx.wish]
        have hz16 : sizeLine = 16777216 := rfl
        have hq := abc_at (k := (one + 7 * (0 + (j : Int)) + 11) % 26) (Int.emod_nonneg _ (by decide)) (Int.emod_lt_of_pos _ (by decide))
        have hpl : place = ((place.toNat : Nat) : Int) := by omega
        have hc := hr0.cut place.toNat
        rw [← hpl] at hc
        have hnm := (hc.1.app (Let.one hq.2)).app hc.2
        refine ⟨by rw [hr0.len]; omega, mulW64 (by decide) (by omega), by decide, by decide, _, hq.1, ?_, by rw [hr0.len]; omega, ?_, hN2 _ _ ?_⟩
        · rw [hc.1.len, (Let.one hq.2).len]
          omega
        · rw [(hc.1.app (Let.one hq.2)).len, hc.2.len]
          omega
        clear hN2 N2
        generalize cutS rest none (some place) ++ _ ++ _ = name at hnm ⊢
        -- a name that is taken
        refine seq_i fun N2 hN2 => ?_
        simp only [rIn, tSeq, tIfS, tOp, tVar, tC, tCB, tCons, tNil, rI0, rI, tTest, tRet, tRetN, tNext, tAsg, gName, gNil, gCons, gTup, gUnl, tLst, tTup, tCall, tMeth, tMake, tUn, rU, tAndV, tOrV, tNotV, tAnd, tOr, tNot, tIf, tB, tFld, tDrop, tPar, tNever, tBM, rAppend, tSl, tPart, tNoPart, tM1, tyLst, List.getElem?_cons_zero, List.getElem?_cons_succ, Option.some.injEq, exists_eq_left', exists_eq_left, V.int.injEq, V.bl.injEq, V.str.injEq, V.ref.injEq, List.set_cons_zero, List.set_cons_succ, exists_and_left, exists_and_right, and_assoc, List.cons.injEq, and_true, true_and, List.cons_append, List.nil_append, List.append_nil, List.length_cons, List.length_nil, exists_eq', exists_eq, exists_const, exists_eq_right, exists_eq_right', cxK, Cx.nox, Cx.wish]
        suffices fin : ∀ (nm : Str) (v13' : Option V) (H7 : Hp), Ext H3 H7 → (∃ k, Let nm k ∧ 1 ≤ k ∧ k ≤ 6) → nm ∉ zs → N2 [some (V.ref l), some (V.int k), some (V.int m), some (V.ref pf), some (V.str abc), some (V.int (0 + (j : Int))), some (V.int one), some (V.int two), some (V.int size), some (V.int place), some (V.str rest), some (V.str nm), v12, v13'] H7 by
          refine ⟨_, .inl (ofL (e36 _ _ hf)), rfl, flat_strs zs, ite2 (fun ht => ?_) (fun ht => ?_)⟩
          · have hc1 : Low (97 + j) := by unfold Low; omega
            have hat : atI abc.cps.toList (0 + (j : Int)) = some (97 + j) := by
              have := (abc_at (k := 0 + (j : Int)) (by omega) (by omega)).1
              rw [this]
              congr 1
              omega
            have ez : (Str.ofString "z").length = 1 := by decide +kernel
            refine tLc_i (J := Its tails) (fun R r => ⟨_, rfl, r⟩) walk_str fun D hD => ?_
            have fD : ∀ u, upd H6 D u pf = some (.lst (zs.map V.str)) := fun u => (Ext.upd hD) _ _ (e36 _ _ hf)
            refine ⟨fun i H' => ∃ ys : List Str, H' = upd H6 D (.lst (ys.map V.str)) ∧ ys.length ≤ i ∧ (∀ y ∈ ys, (∃ k, Let y k ∧ 1 ≤ k ∧ k ≤ 6) ∧ y ∉ zs) ∧ (ys = [] → ∀ t, t < i → cand (97 + j) t ∈ zs),
              ⟨[], rfl, Nat.le_refl _, fun y hy => absurd hy List.not_mem_nil, fun _ t ht => absurd ht (Nat.not_lt_zero _)⟩, fun _ _ _ _ => trivial, ?_, ?_⟩
            · rintro i x H7 H8 hi ⟨ys, rfl, hy, hall, hno⟩ ⟨rfl, cc, hcc, rfl⟩
              obtain ⟨hi12, rfl⟩ := tails_at hcc
              have ew : wipe [some (V.ref l), some (V.int k), some (V.int m), some (V.ref pf), some (V.str abc), some (V.int (0 + (j : Int))), some (V.int one), some (V.int two), some (V.int size), some (V.int place), some (V.str rest), some (V.str name), v12, v13] (List.map (fun x => x.snd) [((Str.ofString "_law_tail" : Str), 13)]) =
                [some (V.ref l), some (V.int k), some (V.int m), some (V.ref pf), some (V.str abc), some (V.int (0 + (j : Int))), some (V.int one), some (V.int two), some (V.int size), some (V.int place), some (V.str rest), some (V.str name), v12, none] := rfl
              refine ⟨rfl, ?_⟩
              simp only [ew, rIxS, rIn, tSeq, tIfS, tOp, tVar, tC, tCB, tCons, tNil, rI0, rI, tTest, tRet, tRetN, tNext, tAsg, gName, gNil, gCons, gTup, gUnl, tLst, tTup, tCall, tMeth, tMake, tUn, rU, tAndV, tOrV, tNotV, tAnd, tOr, tNot, tIf, tB, tFld, tDrop, tPar, tNever, tBM, rAppend, tSl, tPart, tNoPart, tM1, tyLst, List.getElem?_cons_zero, List.getElem?_cons_succ, Option.some.injEq, exists_eq_left', exists_eq_left, V.int.injEq, V.bl.injEq, V.str.injEq, V.ref.injEq, List.set_cons_zero, List.set_cons_succ, exists_and_left, exists_and_right, and_assoc, List.cons.injEq, and_true, true_and, List.cons_append, List.nil_append, List.append_nil, List.length_cons, List.length_nil, exists_eq', exists_eq, exists_const, exists_eq_right, exists_eq_right', cxK, Cx.nox, Cx.wish]
              have l1 : ∀ x, (Str.ofString "z").length + (⟨#[x]⟩ : Str).length ≤ sizeLine := fun x => by rw [ez]; show 1 + 1 ≤ sizeLine; decide
              have l2 : ∀ x y, (Str.ofString "z" ++ (⟨#[x]⟩ : Str)).length + (⟨#[y]⟩ : Str).length ≤ sizeLine := fun x y => by rw [strLen_append, ez]; show 1 + 1 + 1 ≤ sizeLine; decide
              refine ⟨by decide, _, hat, l1 _, l2 _ _, _, .inl (ofL (fD _)), rfl, flat_strs zs, ?_⟩
              rw [cand_app]
              refine ite2 (fun hb => ?_) (fun hb => ?_)
              · have hni : cand (97 + j) i ∉ zs := fun z => by
                  have hb2 : (!inV (V.str (cand (97 + j) i)) (zs.map V.str)) = true := hb
                  rw [in_strs.mpr z] at hb2
                  cases hb2
                refine ⟨by decide, _, hat, l1 _, l2 _ _, _, upd_same, ?_, ys ++ [cand (97 + j) i], ?_, ?_, ?_, ?_⟩
                · rw [List.length_map]
                  omega
                · rw [upd_upd, List.map_append, cand_app]
                  rfl
                · rw [List.length_append]
                  show ys.length + 1 ≤ i + 1
                  omega
                · intro y hy2
                  rcases List.mem_append.mp hy2 with h | h
                  · exact hall y h
                  · rw [List.mem_singleton.mp h]
                    exact ⟨⟨3, cand_let hc1 hi12, by decide, by decide⟩, hni⟩
                · intro e
                  simp at e
              · have hin : cand (97 + j) i ∈ zs := by
                  cases hq2 : inV (V.str (cand (97 + j) i)) (zs.map V.str) with
                  | true => exact in_strs.mp hq2
                  | false =>
                    refine (hb ?_).elim
                    show (!inV (V.str (cand (97 + j) i)) (zs.map V.str)) = true
                    rw [hq2]
                    rfl
                refine ⟨ys, rfl, by omega, hall, fun e t ht => ?_⟩
                rcases Nat.lt_or_ge t i with h | h
                · exact hno e t h
                · obtain rfl : t = i := by omega
                  exact hin
            · rintro H7 ⟨ys, rfl, hy, hall, hno⟩
              rw [tails_size] at hno
              cases ys with
              | nil => exact absurd (hno rfl) (cand_free (by omega))
              | cons y ys =>
                have hy1 := hall y List.mem_cons_self
                exact ⟨D, _, 0, _, rfl, rfl, ofL upd_same, atI_0, fin y v13 _ (e36.trans (Ext.upd hD)) hy1.1 hy1.2⟩
          · exact fin name v13 H6 e36 ⟨_, hnm, by omega, by omega⟩ fun z => ht (in_strs.mpr z)
        intro nm v13' H7 e37 hlet hni
        refine hN2 _ _ ?_
        clear hN2 N2
        simp only [tSeq, tIfS, tOp, tVar, tC, tCB, tCons, tNil, rI0, rI, tTest, tRet, tRetN, tNext, tAsg, gName, gNil, gCons, gTup, gUnl, tLst, tTup, tCall, tMeth, tMake, tUn, rU, tAndV, tOrV, tNotV, tAnd, tOr, tNot, tIf, tB, tFld, tDrop, tPar, tNever, tBM, rAppend, tSl, tPart, tNoPart, tM1, tyLst, List.getElem?_cons_zero, List.getElem?_cons_succ, Option.some.injEq, exists_eq_left', exists_eq_left, V.int.injEq, V.bl.injEq, V.str.injEq, V.ref.injEq, List.set_cons_zero, List.set_cons_succ, exists_and_left, exists_and_right, and_assoc, List.cons.injEq, and_true, true_and, List.cons_append, List.nil_append, List.append_nil, List.length_cons, List.length_nil, exists_eq', exists_eq, exists_const, exists_eq_right, exists_eq_right', cxK, Cx.nox, Cx.wish]
        have e7 := e37 _ _ hf
        refine ⟨tyLst e7, _, e7, by rw [List.length_map]; omega, upd_ext (eH.trans e37) hpf, zs ++ [nm], ⟨?_, ?_⟩, ?_, ?_⟩
        · intro n hn2
          rcases List.mem_append.mp hn2 with h | h
          · exact hg.each n h
          · rw [List.mem_singleton.mp h]
            exact hlet
        · exact List.nodup_append.mpr ⟨hg.nd, by simp, fun x hx y hy e => by
            rw [List.mem_singleton.mp hy] at e
            exact hni (e ▸ hx)⟩
        · rw [List.length_append, hl]
          rfl
        · rw [upd_same, List.map_append]
          rfl
    · rintro σ H3 ⟨⟨v5, v6, v7, v8, v9, v10, v11, v12, v13, rfl⟩, eH, zs, hg, hl, hf⟩
      refine hN _ _ ?_
      simp only [tSeq, tIfS, tOp, tVar, tC, tCB, tCons, tNil, rI0, rI, tTest, tRet, tRetN, tNext, tAsg, gName, gNil, gCons, gTup, gUnl, tLst, tTup, tCall, tMeth, tMake, tUn, rU, tAndV, tOrV, tNotV, tAnd, tOr, tNot, tIf, tB, tFld, tDrop, tPar, tNever, tBM, rAppend, tSl, tPart, tNoPart, tM1, tyLst, List.getElem?_cons_zero, List.getElem?_cons_succ, Option.some.injEq, exists_eq_left', exists_eq_left, V.int.injEq, V.bl.injEq, V.str.injEq, V.ref.injEq, List.set_cons_zero, List.set_cons_succ, exists_and_left, exists_and_right, and_assoc, List.cons.injEq, and_true, true_and, List.cons_append, List.nil_append, List.append_nil, List.length_cons, List.length_nil, exists_eq', exists_eq, exists_const, exists_eq_right, exists_eq_right', cxK, Cx.nox, Cx.wish]
      exact q zs pf H3 hg (by omega) eH hf hpf

end
end My

set_option Elab.async false
set_option maxRecDepth 100000
set_option maxHeartbeats 4000000
set_option linter.all false
namespace My
open PySem L2 Own
section
variable {P : Program} {w : World} {K : PySem.W.Frag} {mg : Str → Option Value} {base : Heap} {a : Adr}
/-! ### Part -/
def spPartInit (C : Addr) : Sp := fun vs H Q _ => ∃ (p dx : Addr) (t l : Int), vs = [.ref p, .int t, .int l] ∧ H p = some (.ins C dx []) ∧ l ≠ 0 ∧ t.natAbs < 2 ^ 4000 ∧ l.natAbs < 2 ^ 4000 ∧ Q .non (upd H p (.ins C dx (fsP (fracT t l) (fracL t l))))
theorem ok_Part_init (T : Tx a K mg w) : FnOk P w K mg base CX0 1 a.f_Part_init a.d_Part_init ps_Part_init (spPartInit a.C_Part) := by
  refine okD T.F_Part_init sc_Part_init (fun vs H Q E h => ?_) (fun cdv A outer s H vs Q E hr h => ?_)
  · obtain ⟨p, dx, t, l, rfl, _⟩ := h
    rfl
  · obtain ⟨p, dx, t, l, rfl, hp, hl, ht, hlb, q⟩ := h
    refine ⟨_, (pss_cons (ps_if (pt_cmpR op_eq (pv 2) pe_int (nomark _)) (pss_one ps_never) pss_nil)
      (pss_cons (ps_set (i := 3) sc_Part_init.nd rfl (by first | exact Or.inl rfl | exact Or.inr rfl) (pe_callBfun cr_gcd (by rfl) T.mg_gcd (pa_cons (pv 1) (pa_cons (pv 2) pa_nil))))
      (pss_cons (ps_if (pt_cmpR op_lt (pv 2) pe_int (nomark _)) (pss_one (ps_set (i := 3) sc_Part_init.nd rfl (by first | exact Or.inl rfl | exact Or.inr rfl) (pe_un un_neg (pv 3)))) pss_nil)
      (pss_cons (ps_fld (pv 0) (pe_op op_fdivA (pv 1) (pv 3)) rfl)
      (pss_one (ps_fld (pv 0) (pe_op op_fdivA (pv 2) (pv 3)) rfl)))))), ?_⟩
    show tSeq _ _ _ [some (V.ref p), some (V.int t), some (V.int l), none] H
    simp only [rEq, rGcd, sFld, tSeq, tIfS, tOp, tVar, tC, tCB, tCons, tNil, rI0, rI, tTest, tRet, tRetN, tNext, tAsg, gName, gNil, gCons, gTup, gUnl, tLst, tTup, tCall, tMeth, tMake, tUn, rU, tAndV, tOrV, tNotV, tAnd, tOr, tNot, tIf, tB, tFld, tDrop, tPar, tNever, tBM, rAppend, tSl, tPart, tNoPart, tM1, tyLst, List.getElem?_cons_zero, List.getElem?_cons_succ, Option.some.injEq, exists_eq_left', exists_eq_left, V.int.injEq, V.bl.injEq, V.str.injEq, V.ref.injEq, List.set_cons_zero, List.set_cons_succ, exists_and_left, exists_and_right, and_assoc, List.cons.injEq, and_true, true_and, List.cons_append, List.nil_append, List.append_nil, List.length_cons, List.length_nil, exists_eq', exists_eq, exists_const, exists_eq_right, exists_eq_right', cxK, Cx.nox, Cx.wish]
    have hg0 := gcdI_pos (t := t) hl
    have hgb : (gcdI t l).natAbs < 2 ^ 4000 := Nat.lt_of_le_of_lt (gcdI_le hl) hlb
    refine ⟨rfl, ?_⟩
    rw [decide_eq_false hl]
    refine iteF (ite2 (fun hn => ?_) (fun hn => ?_))
    · have hn := of_decide_eq_true hn
      have e := frac_neg (t := t) hn
      unfold gcdI at e
      have hd : ∀ i, CDivA i (-((Nat.gcd t.natAbs l.natAbs : Nat) : Int)) := fun i => divA_of 4000 (by unfold gcdI at hg0; omega) (by rw [Int.natAbs_neg]; exact hgb) (by decide) (by decide)
      rw [e.1, e.2]
      refine ⟨hd _, _, _, _, hp, T.cl_Part, T.na_Part_top, (by show 0 < 1000; decide), hd _, _, _, _, upd_same, T.cl_Part, T.na_Part_low, (by show 1 < 1000; decide), ?_⟩
      rw [upd_upd]
      exact q
    · have hn : ¬ l < 0 := fun z => hn (decide_eq_true z)
      have e := frac_pos (t := t) (l := l) (by omega)
      unfold gcdI at e
      have hd : ∀ i, CDivA i ((Nat.gcd t.natAbs l.natAbs : Nat) : Int) := fun i => divA_of 4000 (by unfold gcdI at hg0; omega) hgb (by decide) (by decide)
      rw [e.1, e.2]
      refine ⟨hd _, _, _, _, hp, T.cl_Part, T.na_Part_top, (by show 0 < 1000; decide), hd _, _, _, _, upd_same, T.cl_Part, T.na_Part_low, (by show 1 < 1000; decide), ?_⟩
      rw [upd_upd]
      exact q
def spSign (C : Addr) : Sp := fun vs H Q _ => ∃ (p : Addr) (t l : Int), vs = [.ref p] ∧ PartAt C H p t l ∧ Q (.int (sgn t)) H
theorem ok_Part_sign (T : Tx a K mg w) : FnOk P w K mg base CX0 1 a.f_Part_sign a.d_Part_sign ps_Part_sign (spSign a.C_Part) := by
  refine T.F_Part_sign.ok sc_Part_sign (fun vs H Q E h => ?_) (fun cdv A outer s H vs Q E hr h => ?_)
  · obtain ⟨p, t, l, rfl, _⟩ := h
    rfl
  · obtain ⟨p, t, l, rfl, ⟨dx, hp⟩, q⟩ := h
    refine ⟨_, (pss_cons (ps_if (pt_cmpR op_eq (pe_fld (pv 0) rfl) pe_int (nomark _)) (pss_one (ps_ret pe_int)) pss_nil)
      (pss_one (ps_ret (pe_ifExp (pt_cmpR op_gt (pe_fld (pv 0) rfl) pe_int (nomark _)) pe_int (pe_un un_neg pe_int))))), ?_⟩
    show tSeq _ _ _ [some (V.ref p)] H
    simp only [rEq, tSeq, tIfS, tOp, tVar, tC, tCB, tCons, tNil, rI0, rI, tTest, tRet, tRetN, tNext, tAsg, gName, gNil, gCons, gTup, gUnl, tLst, tTup, tCall, tMeth, tMake, tUn, rU, tAndV, tOrV, tNotV, tAnd, tOr, tNot, tIf, tB, tFld, tDrop, tPar, tNever, tBM, rAppend, tSl, tPart, tNoPart, tM1, tyLst, List.getElem?_cons_zero, List.getElem?_cons_succ, Option.some.injEq, exists_eq_left', exists_eq_left, V.int.injEq, V.bl.injEq, V.str.injEq, V.ref.injEq, List.set_cons_zero, List.set_cons_succ, exists_and_left, exists_and_right, and_assoc, List.cons.injEq, and_true, true_and, List.cons_append, List.nil_append, List.append_nil, List.length_cons, List.length_nil, exists_eq', exists_eq, exists_const, exists_eq_right, exists_eq_right', cxK, Cx.nox, Cx.wish]
    refine ⟨_, _, _, hp, T.cl_Part, T.na_Part_top, _, fsP_top t l, rfl, ite2 (fun h0 => ?_) (fun h0 => ?_)⟩
    · have h0 : t = 0 := V.int.inj (of_decide_eq_true h0)
      rw [show (0 : Int) = sgn t by unfold sgn; rw [if_pos h0]]
      exact q
    · have h0 : ¬ t = 0 := fun z => h0 (decide_eq_true (congrArg V.int z))
      refine ⟨_, _, _, hp, T.cl_Part, T.na_Part_top, _, fsP_top t l, t, rfl, ite2 (fun h1 => ?_) (fun h1 => ?_)⟩
      · have h1 := of_decide_eq_true h1
        rw [show (1 : Int) = sgn t by unfold sgn; rw [if_neg h0, if_pos h1]]
        exact q
      · have h1 : ¬ 0 < t := fun z => h1 (decide_eq_true z)
        rw [show (-1 : Int) = sgn t by unfold sgn; rw [if_neg h0, if_neg h1]]
        exact q

/-! ### Part: plus, times, over -/
def spPartOp (C : Addr) (F G : Int → Int → Int → Int → Int) : Sp := fun vs H Q _ => ∃ (p q : Addr) (t l t2 l2 : Int), vs = [.ref p, .ref q] ∧ PartAt C H p t l ∧ PartAt C H q t2 l2 ∧ G t l t2 l2 ≠ 0 ∧ t.natAbs < 2 ^ 1000 ∧ l.natAbs < 2 ^ 1000 ∧ t2.natAbs < 2 ^ 1000 ∧ l2.natAbs < 2 ^ 1000 ∧
  ∀ (r : Addr) H', Ext H H' → H r = none → PartAt C H' r (fracT (F t l t2 l2) (G t l t2 l2)) (fracL (F t l t2 l2) (G t l t2 l2)) → Q (.ref r) H'
theorem mk_partE {C x dx : Addr} {H : Hp} {t l : Int} {Q : VK} {E : XK} (hx : H x = none) (hd : H dx = none) (hl : l ≠ 0) (ht : t.natAbs < 2 ^ 4000) (hb : l.natAbs < 2 ^ 4000) (k : ∀ H', Ext H H' → PartAt C H' x (fracT t l) (fracL t l) → Q .non H') :
    spPartInit C [.ref x, .int t, .int l] (upd (upd H dx (.own x)) x (.ins C dx [])) Q E := by
  refine ⟨x, dx, t, l, rfl, upd_same, hl, ht, hb, ?_⟩
  generalize hh : upd (upd (upd H dx _) x _) x _ = H'
  obtain ⟨e, f⟩ := makeP hx hd hh
  exact k H' e ⟨dx, f⟩
theorem mulB {x y : Int} (h1 : x.natAbs < 2 ^ 1000) (h2 : y.natAbs < 2 ^ 1000) : CMulW x y ∧ (x * y).natAbs < 2 ^ 2000 := ⟨mulWn 1000 1000 h1 h2 (by decide) (by decide) (by decide), mul_lt 1000 1000 h1 h2⟩
theorem addB {x y : Int} (h1 : x.natAbs < 2 ^ 2000) (h2 : y.natAbs < 2 ^ 2000) : (x + y).natAbs < 2 ^ 4000 := by
  have h : (x + y).natAbs ≤ x.natAbs + y.natAbs := Int.natAbs_add_le x y
  have h3 : 2 ^ 2000 + 2 ^ 2000 ≤ 2 ^ 4000 := by
    have e : 2 ^ 2000 + 2 ^ 2000 = 2 ^ 2001 := by rw [Nat.pow_succ]; omega
    rw [e]
    exact Nat.pow_le_pow_right (by decide) (by decide)
  omega

theorem ok_Part_plus (T : Tx a K mg w) : FnOk P w K mg base CX0 3 a.f_Part_plus a.d_Part_plus ps_Part_plus (spPartOp a.C_Part (fun t l t2 l2 => t * l2 + t2 * l) (fun t l t2 l2 => l * l2)) := by
  refine T.F_Part_plus.ok sc_Part_plus (fun vs H Q E h => ?_) (fun cdv A outer s H vs Q E hr h => ?_)
  · obtain ⟨p, q, t, l, t2, l2, rfl, _⟩ := h
    rfl
  · obtain ⟨p, q, t, l, t2, l2, rfl, ⟨dp, hp⟩, ⟨dq, hq⟩, hne, b1, b2, b3, b4, k⟩ := h
    have G_Part_init := ok_Part_init (P := P) (w := w) (base := base) T
    obtain ⟨_, D_Part_init_1, B_Part_init_1⟩ := bnd_Part_init_1 T
    obtain ⟨_, D_Part_init_2, B_Part_init_2⟩ := bnd_Part_init_2 T
    have hr_Part_init : Room 1 _ := hr.mono (by decide)
    have hr1_Part_init : Room 2 _ := hr.mono (by decide)
    refine ⟨_, (pss_one (ps_ret (pe_make T.mk_Part G_Part_init hr1_Part_init (by rfl) T.mg_Part B_Part_init_2 D_Part_init_2 pass0 (pa_cons (pe_op op_add (pe_op op_mulW (pe_fld (pv 0) rfl) (pe_fld (pv 1) rfl)) (pe_op op_mulW (pe_fld (pv 1) rfl) (pe_fld (pv 0) rfl))) (pa_cons (pe_op op_mulW (pe_fld (pv 0) rfl) (pe_fld (pv 1) rfl)) pa_nil))))), ?_⟩
    show tRet _ _ [some (V.ref p), some (V.ref q)] H
    simp only [tSeq, tIfS, tOp, tVar, tC, tCB, tCons, tNil, rI0, rI, tTest, tRet, tRetN, tNext, tAsg, gName, gNil, gCons, gTup, gUnl, tLst, tTup, tCall, tMeth, tMake, tUn, rU, tAndV, tOrV, tNotV, tAnd, tOr, tNot, tIf, tB, tFld, tDrop, tPar, tNever, tBM, rAppend, tSl, tPart, tNoPart, tM1, tyLst, List.getElem?_cons_zero, List.getElem?_cons_succ, Option.some.injEq, exists_eq_left', exists_eq_left, V.int.injEq, V.bl.injEq, V.str.injEq, V.ref.injEq, List.set_cons_zero, List.set_cons_succ, exists_and_left, exists_and_right, and_assoc, List.cons.injEq, and_true, true_and, List.cons_append, List.nil_append, List.append_nil, List.length_cons, List.length_nil, exists_eq', exists_eq, exists_const, exists_eq_right, exists_eq_right', cxK, Cx.nox, Cx.wish]
    refine ⟨_, _, _, hp, T.cl_Part, T.na_Part_top, _, fsP_top _ _, _, _, _, hq, T.cl_Part, T.na_Part_low, _, fsP_low _ _, t, rfl, l2, rfl, (mulB b1 b4).1, _, _, _, hq, T.cl_Part, T.na_Part_top, _, fsP_top _ _, _, _, _, hp, T.cl_Part, T.na_Part_low, _, fsP_low _ _, t2, rfl, l, rfl, (mulB b3 b2).1, _, _, _, hp, T.cl_Part, T.na_Part_low, _, fsP_low _ _, _, _, _, hq, T.cl_Part, T.na_Part_low, _, fsP_low _ _, l, rfl, l2, rfl, (mulB b2 b4).1, fun x dx hx hdx _ => ?_⟩
    exact mk_partE hx hdx hne (addB (mulB b1 b4).2 (mulB b3 b2).2) (Nat.lt_trans (mulB b2 b4).2 (by decide)) fun H' e f => ⟨rfl, k x H' e hx f⟩

/-! ### _law_frac -/
def spFrac : Sp := fun vs H Q _ => ∃ t l : Int, vs = [.int t, .int l] ∧ l ≠ 0 ∧ t.natAbs < 2 ^ 4000 ∧ l.natAbs < 2 ^ 4000 ∧ ∀ p, H p = none → Q (.ref p) (upd H p (.tup [.int (fracT t l), .int (fracL t l)]))
theorem ok_l_frac (T : Tx a K mg w) : FnOk P w K mg base CX0 1 a.f_l_frac a.d_l_frac ps_l_frac spFrac := by
  refine T.F_l_frac.ok sc_l_frac (fun vs H Q E h => ?_) (fun cdv A outer s H vs Q E hr h => ?_)
  · obtain ⟨t, l, rfl, _⟩ := h
    rfl
  · obtain ⟨t, l, rfl, hl, ht, hlb, q⟩ := h
    refine ⟨_, (pss_cons (ps_par (i := 2) (j := 3) (by rfl) sc_l_frac.nd rfl rfl (by decide) rfl rfl (pa_cons (pe_callB call_abs (by rfl) T.no_abs (by decide +kernel) (pa_cons (pv 0) pa_nil)) (pa_cons (pe_callB call_abs (by rfl) T.no_abs (by decide +kernel) (pa_cons (pv 1) pa_nil)) pa_nil)) (by rfl))
      (pss_cons (ps_while PassesOwn.never (pt_cmpR op_gt (pv 3) pe_int (nomark _)) (pss_one (ps_par (i := 2) (j := 3) (by rfl) sc_l_frac.nd rfl rfl (by decide) rfl rfl (pa_cons (pv 3) (pa_cons (pe_op op_mod (pv 2) (pv 3)) pa_nil)) (by rfl))))
      (pss_cons (ps_set (i := 4) sc_l_frac.nd rfl (by first | exact Or.inl rfl | exact Or.inr rfl) (pe_ifExp (pt_cmpR op_gt (pv 1) pe_int (nomark _)) pe_int (pe_un un_neg pe_int)))
      (pss_one (ps_ret (pe_tup (pa_cons (pe_op op_fdivA (pe_op op_mulW (pv 4) (pv 0)) (pv 2)) (pa_cons (pe_op op_fdivA (pe_callB call_abs (by rfl) T.no_abs (by decide +kernel) (pa_cons (pv 1) pa_nil)) (pv 2)) pa_nil)))))))), ?_⟩
    show tSeq _ _ _ [some (V.int t), some (V.int l), none, none, none] H
    simp only [tSeq, tIfS, tOp, tVar, tC, tCB, tCons, tNil, rI0, rI, tTest, tRet, tRetN, tNext, tAsg, gName, gNil, gCons, gTup, gUnl, tLst, tTup, tCall, tMeth, tMake, tUn, rU, tAndV, tOrV, tNotV, tAnd, tOr, tNot, tIf, tB, tFld, tDrop, tPar, tNever, tBM, rAppend, tSl, tPart, tNoPart, tM1, tyLst, List.getElem?_cons_zero, List.getElem?_cons_succ, Option.some.injEq, exists_eq_left', exists_eq_left, V.int.injEq, V.bl.injEq, V.str.injEq, V.ref.injEq, List.set_cons_zero, List.set_cons_succ, exists_and_left, exists_and_right, and_assoc, List.cons.injEq, and_true, true_and, List.cons_append, List.nil_append, List.append_nil, List.length_cons, List.length_nil, exists_eq', exists_eq, exists_const, exists_eq_right, exists_eq_right', cxK, Cx.nox, Cx.wish]
    refine while_by (fun σ H' => ∃ m n : Nat, σ = [some (V.int t), some (V.int l), some (V.int m), some (V.int n), none] ∧ H' = H ∧ Nat.gcd m n = Nat.gcd t.natAbs l.natAbs) (fun σ _ => match σ with | [_, _, _, some (V.int n), _] => n.natAbs | _ => 0)
      ⟨t.natAbs, l.natAbs, ?_, rfl, rfl⟩ ?_ ?_
    · rw [show (if t < 0 then -t else t) = (t.natAbs : Int) by split <;> omega, show (if l < 0 then -l else l) = (l.natAbs : Int) by split <;> omega]
    · rintro σ H' ⟨m, n, rfl, rfl, hg⟩
      simp only [tSeq, tIfS, tOp, tVar, tC, tCB, tCons, tNil, rI0, rI, tTest, tRet, tRetN, tNext, tAsg, gName, gNil, gCons, gTup, gUnl, tLst, tTup, tCall, tMeth, tMake, tUn, rU, tAndV, tOrV, tNotV, tAnd, tOr, tNot, tIf, tB, tFld, tDrop, tPar, tNever, tBM, rAppend, tSl, tPart, tNoPart, tM1, tyLst, List.getElem?_cons_zero, List.getElem?_cons_succ, Option.some.injEq, exists_eq_left', exists_eq_left, V.int.injEq, V.bl.injEq, V.str.injEq, V.ref.injEq, List.set_cons_zero, List.set_cons_succ, exists_and_left, exists_and_right, and_assoc, List.cons.injEq, and_true, true_and, List.cons_append, List.nil_append, List.append_nil, List.length_cons, List.length_nil, exists_eq', exists_eq, exists_const, exists_eq_right, exists_eq_right', cxK, Cx.nox, Cx.wish]
      refine ite2 (fun hb => ?_) (fun hb => ?_)
      · have hb := of_decide_eq_true hb
        refine ⟨hb, ⟨n, rfl, m % n, (Int.natCast_emod m n).symm, ?_⟩, ?_⟩
        · rw [Nat.gcd_comm, ← Nat.gcd_rec, Nat.gcd_comm]
          exact hg
        · show ((m : Int) % (n : Int)).natAbs < ((n : Int)).natAbs
          have h1 := Int.emod_lt_of_pos (m : Int) hb
          have h2 := Int.emod_nonneg (m : Int) (b := (n : Int)) (by omega)
          omega
      · have hb : ¬ (0 < (n : Int)) := fun z => hb (decide_eq_true z)
        obtain rfl : n = 0 := by omega
        rw [Nat.gcd_zero_right] at hg
        have em : (m : Int) = gcdI t l := by
          unfold gcdI
          rw [hg]
        rw [em]
        have hg0 := gcdI_pos (t := t) hl
        have hgb : (gcdI t l).natAbs < 2 ^ 4000 := Nat.lt_of_le_of_lt (gcdI_le hl) hlb
        have hd : ∀ i, CDivA i (gcdI t l) := fun i => divA_of 4000 (by omega) hgb (by decide) (by decide)
        have eL : (if l < 0 then -l else l).fdiv (gcdI t l) = fracL t l := by
          rw [show (if l < 0 then -l else l) = (l.natAbs : Int) by split <;> omega, Int.fdiv_eq_ediv_of_nonneg _ (by omega)]
          rfl
        have eT : ∀ s : Int, (s * t).fdiv (gcdI t l) = s * t / gcdI t l := fun s => Int.fdiv_eq_ediv_of_nonneg _ (by omega)
        rw [eL, eT, eT]
        refine ite2 (fun hp => ?_) (fun hp => ?_)
        · have hp := of_decide_eq_true hp
          have e : 1 * t / gcdI t l = fracT t l := by
            unfold fracT
            rw [if_pos hp]
          rw [e]
          exact ⟨mulWn 64 4000 (by decide) ht (by decide) (by decide) (by decide), hd _, hd _, by decide, fun p hp => q p hp⟩
        · have hp : ¬ 0 < l := fun z => hp (decide_eq_true z)
          have e : -1 * t / gcdI t l = fracT t l := by
            unfold fracT
            rw [if_neg hp]
          rw [e]
          exact ⟨mulWn 64 4000 (by decide) ht (by decide) (by decide) (by decide), hd _, hd _, by decide, fun p hp => q p hp⟩
    · intro σ H' Q1 Q2 hq h
      obtain ⟨v, h1, i, j, e1, e2, k, e3, h⟩ := h
      exact ⟨v, h1, i, j, e1, e2, k, e3, hq _ _ h⟩

/-! ### Part by rationals -/
theorem mk_partR {C x dx : Addr} {H : Hp} {t l : Int} {Q : VK} {E : XK} (hx : H x = none) (hd : H dx = none) (hl : l ≠ 0) (ht : t.natAbs < 2 ^ 4000) (hb : l.natAbs < 2 ^ 4000) (k : ∀ H', Ext H H' → PartR C H' x (Rat.divInt t l) → Q .non H') :
    spPartInit C [.ref x, .int t, .int l] (upd (upd H dx (.own x)) x (.ins C dx [])) Q E :=
  mk_partE hx hd hl ht hb fun H' e f => k H' e (by
    unfold PartR
    rw [← fracT_rat hl, ← fracL_rat hl]
    exact f)
theorem op_r {C p q : Addr} {H : Hp} {F G : Int → Int → Int → Int → Int} {x y z : Rat} {Q : VK} {E : XK} (hp : PartR C H p x) (hq : PartR C H q y) (sx : Sz x 1000) (sy : Sz y 1000) (hG : G x.num x.den y.num y.den ≠ 0) (hz : Rat.divInt (F x.num x.den y.num y.den) (G x.num x.den y.num y.den) = z)
    (k : ∀ (r : Addr) H', Ext H H' → H r = none → PartR C H' r z → Q (.ref r) H') : spPartOp C F G [.ref p, .ref q] H Q E := by
  refine ⟨p, q, _, _, _, _, rfl, hp, hq, hG, sx.n, sx.d, sy.n, sy.d, fun r H' e n h => k r H' e n ?_⟩
  unfold PartR
  rw [← hz, ← fracT_rat hG, ← fracL_rat hG]
  exact h
theorem plus_r {C p q : Addr} {H : Hp} {x y : Rat} {Q : VK} {E : XK} (hp : PartR C H p x) (hq : PartR C H q y) (sx : Sz x 1000) (sy : Sz y 1000) (k : ∀ (r : Addr) H', Ext H H' → H r = none → PartR C H' r (x + y) → Q (.ref r) H') :
    spPartOp C (fun t l t2 l2 => t * l2 + t2 * l) (fun t l t2 l2 => l * l2) [.ref p, .ref q] H Q E := op_r hp hq sx sy (mul_ne (den_ne x) (den_ne y)) (rat_add x y) k
theorem times_r {C p q : Addr} {H : Hp} {x y : Rat} {Q : VK} {E : XK} (hp : PartR C H p x) (hq : PartR C H q y) (sx : Sz x 1000) (sy : Sz y 1000) (k : ∀ (r : Addr) H', Ext H H' → H r = none → PartR C H' r (x * y) → Q (.ref r) H') :
    spPartOp C (fun t l t2 l2 => t * t2) (fun t l t2 l2 => l * l2) [.ref p, .ref q] H Q E := op_r hp hq sx sy (mul_ne (den_ne x) (den_ne y)) (rat_mul x y) k
theorem over_r {C p q : Addr} {H : Hp} {x y : Rat} {Q : VK} {E : XK} (hp : PartR C H p x) (hq : PartR C H q y) (sx : Sz x 1000) (sy : Sz y 1000) (h0 : y.num ≠ 0) (k : ∀ (r : Addr) H', Ext H H' → H r = none → PartR C H' r (x / y) → Q (.ref r) H') :
    spPartOp C (fun t l t2 l2 => t * l2) (fun t l t2 l2 => l * t2) [.ref p, .ref q] H Q E := op_r hp hq sx sy (mul_ne (den_ne x) h0) (rat_div x y) k
/-! ### _law_plus -/
def TupZ (H : Hp) (p : Addr) (t l : Int) : Prop := H p = some (.tup [.int t, .int l])
def spLPlus : Sp := fun vs H Q _ => ∃ (p q : Addr) (t l t2 l2 : Int), vs = [.ref p, .ref q] ∧ TupZ H p t l ∧ TupZ H q t2 l2 ∧ l ≠ 0 ∧ l2 ≠ 0 ∧ t.natAbs < 2 ^ 1000 ∧ l.natAbs < 2 ^ 1000 ∧ t2.natAbs < 2 ^ 1000 ∧ l2.natAbs < 2 ^ 1000 ∧
  ∀ r H', Ext H H' → H r = none → TupR H' r (Rat.divInt t l + Rat.divInt t2 l2) → Q (.ref r) H'
theorem ok_l_plus (T : Tx a K mg w) : FnOk P w K mg base CX0 2 a.f_l_plus a.d_l_plus ps_l_plus spLPlus := by
  refine T.F_l_plus.ok sc_l_plus (fun vs H Q E h => ?_) (fun cdv A outer s H vs Q E hr h => ?_)
  · obtain ⟨p, q, t, l, t2, l2, rfl, _⟩ := h
    rfl
  · obtain ⟨p, q, t, l, t2, l2, rfl, hp, hq, hl, hl2, b1, b2, b3, b4, k⟩ := h
    have G_l_frac := ok_l_frac (P := P) (w := w) (base := base) T
    have B_l_frac := bnd_l_frac T
    have hr_l_frac : Room 1 _ := hr.mono (by decide)
    refine ⟨_, (pss_one (ps_ret (pe_call G_l_frac hr_l_frac (by rfl) T.mg_l_frac T.F_l_frac.kp B_l_frac .nil pass0 (pa_cons (pe_op op_add (pe_op op_mulW (pe_ix ix_tup (pv 0) pe_int (fun _ _ => rfl)) (pe_ix ix_tup (pv 1) pe_int (fun _ _ => rfl))) (pe_op op_mulW (pe_ix ix_tup (pv 1) pe_int (fun _ _ => rfl)) (pe_ix ix_tup (pv 0) pe_int (fun _ _ => rfl)))) (pa_cons (pe_op op_mulW (pe_ix ix_tup (pv 0) pe_int (fun _ _ => rfl)) (pe_ix ix_tup (pv 1) pe_int (fun _ _ => rfl))) pa_nil))))), ?_⟩
    show tRet _ _ [some (V.ref p), some (V.ref q)] H
    simp only [rIxT, tSeq, tIfS, tOp, tVar, tC, tCB, tCons, tNil, rI0, rI, tTest, tRet, tRetN, tNext, tAsg, gName, gNil, gCons, gTup, gUnl, tLst, tTup, tCall, tMeth, tMake, tUn, rU, tAndV, tOrV, tNotV, tAnd, tOr, tNot, tIf, tB, tFld, tDrop, tPar, tNever, tBM, rAppend, tSl, tPart, tNoPart, tM1, tyLst, List.getElem?_cons_zero, List.getElem?_cons_succ, Option.some.injEq, exists_eq_left', exists_eq_left, V.int.injEq, V.bl.injEq, V.str.injEq, V.ref.injEq, List.set_cons_zero, List.set_cons_succ, exists_and_left, exists_and_right, and_assoc, List.cons.injEq, and_true, true_and, List.cons_append, List.nil_append, List.append_nil, List.length_cons, List.length_nil, exists_eq', exists_eq, exists_const, exists_eq_right, exists_eq_right', cxK, Cx.nox, Cx.wish]
    have m1 := mulB b1 b4
    have m2 := mulB b3 b2
    have m3 := mulB b2 b4
    refine ⟨_, ofT hp, _, atI_0, _, ofT hq, _, atI_1, _, rfl, _, rfl, m1.1, _, ofT hq, _, atI_0, _, ofT hp, _, atI_1, _, rfl, _, rfl, m2.1, _, ofT hp, _, atI_1, _, ofT hq, _, atI_1, _, rfl, _, rfl, m3.1, ?_⟩
    refine ⟨_, _, rfl, mul_ne hl hl2, addB m1.2 m2.2, Nat.lt_trans m3.2 (by decide), fun r hr => k r _ (Ext.upd hr) hr ?_⟩
    unfold TupR
    rw [upd_same, fracT_rat (mul_ne hl hl2), fracL_rat (mul_ne hl hl2), ← Rat.divInt_add_divInt _ _ hl hl2]
theorem lplus_r {p q : Addr} {H : Hp} {x y : Rat} {Q : VK} {E : XK} (hp : TupR H p x) (hq : TupR H q y) (sx : Sz x 1000) (sy : Sz y 1000) (k : ∀ r H', Ext H H' → H r = none → TupR H' r (x + y) → Q (.ref r) H') : spLPlus [.ref p, .ref q] H Q E :=
  ⟨p, q, _, _, _, _, rfl, hp, hq, den_ne x, den_ne y, sx.n, sx.d, sy.n, sy.d, fun r H' e n h => k r H' e n (by
    rw [Rat.num_divInt_den, Rat.num_divInt_den] at h
    exact h)⟩

theorem ty_Part (T : Tx a K mg w) {H : Hp} {p dx : Addr} {fs : List (Str × V)} (h : H p = some (.ins a.C_Part dx fs)) : TyX K H (.ref p) (.ref a.C_Part) := .base (.ins h T.cl_Part T.cc_Part T.cget T.ctk T.mro_Part)
theorem ty_Purse (T : Tx a K mg w) {H : Hp} {p dx : Addr} {fs : List (Str × V)} (h : H p = some (.ins a.C_Purse dx fs)) : TyX K H (.ref p) (.ref a.C_Purse) := .base (.ins h T.cl_Purse T.cc_Purse T.cget T.ctk T.mro_Purse)

def spPartEq (K : PySem.W.Frag) (C : Addr) : Sp := fun vs H Q _ => ∃ (p : Addr) (t l : Int) (y : V), vs = [.ref p, y] ∧ PartAt C H p t l ∧
  ((∃ (q : Addr) (t2 l2 : Int), y = .ref q ∧ PartAt C H q t2 l2 ∧ Q (.bl (decide (t = t2) && decide (l = l2))) H) ∨ ∃ ty, TyX K H y ty ∧ PySem.W.kitOne K ty (.ref C) = some false ∧ Q (.bl false) H)
theorem ok_Part_eq (T : Tx a K mg w) : FnOk P w K mg base CX0 1 a.f_Part_eq a.d_Part_eq ps_Part_eq (spPartEq K a.C_Part) := by
  refine T.F_Part_eq.ok sc_Part_eq (fun vs H Q E h => ?_) (fun cdv A outer s H vs Q E hr h => ?_)
  · obtain ⟨p, t, l, y, rfl, _⟩ := h
    rfl
  · obtain ⟨p, t, l, y, rfl, ⟨dx, hp⟩, h⟩ := h
    refine ⟨_, (pss_one (ps_ret (pe_and (pe_callB call_isi (by rfl) T.no_isinstance (by decide +kernel) (pa_cons (pv 1) (pa_cons (pe_glob (v := V.ref a.C_Part) rfl T.mg_Part rfl) pa_nil))) (pe_and (pe_cmpR op_eq (pe_fld (pv 0) rfl) (pe_fld (pv 1) rfl) (nomark _)) (pe_one (pe_cmpR op_eq (pe_fld (pv 0) rfl) (pe_fld (pv 1) rfl) (nomark _))))))), ?_⟩
    show tRet _ _ [some (V.ref p), some y] H
    simp only [rIsi, rEq, tSeq, tIfS, tOp, tVar, tC, tCB, tCons, tNil, rI0, rI, tTest, tRet, tRetN, tNext, tAsg, gName, gNil, gCons, gTup, gUnl, tLst, tTup, tCall, tMeth, tMake, tUn, rU, tAndV, tOrV, tNotV, tAnd, tOr, tNot, tIf, tB, tFld, tDrop, tPar, tNever, tBM, rAppend, tSl, tPart, tNoPart, tM1, tyLst, List.getElem?_cons_zero, List.getElem?_cons_succ, Option.some.injEq, exists_eq_left', exists_eq_left, V.int.injEq, V.bl.injEq, V.str.injEq, V.ref.injEq, List.set_cons_zero, List.set_cons_succ, exists_and_left, exists_and_right, and_assoc, List.cons.injEq, and_true, true_and, List.cons_append, List.nil_append, List.append_nil, List.length_cons, List.length_nil, exists_eq', exists_eq, exists_const, exists_eq_right, exists_eq_right', cxK, Cx.nox, Cx.wish]
    rcases h with ⟨q, t2, l2, rfl, ⟨dy, hq⟩, h⟩ | ⟨ty, h1, h2, h⟩
    · refine ⟨_, _, .own a.C_Part, ty_Part T hq, true, T.kit_Part_Part, iteT ?_⟩
      refine ⟨_, _, _, hp, T.cl_Part, T.na_Part_top, _, fsP_top t l, q, rfl, _, _, _, hq, T.cl_Part, T.na_Part_top, _, fsP_top t2 l2, rfl, ite2 (fun h0 => ?_) (fun h0 => ?_)⟩
      · have h0 : t = t2 := V.int.inj (of_decide_eq_true h0)
        refine ⟨_, _, _, hp, T.cl_Part, T.na_Part_low, _, fsP_low t l, q, rfl, _, _, _, hq, T.cl_Part, T.na_Part_low, _, fsP_low t2 l2, rfl, ?_⟩
        rw [decide_eq_true h0, Bool.true_and] at h
        rw [show decide (V.int l = V.int l2) = decide (l = l2) from decide_eq_decide.mpr ⟨V.int.inj, congrArg V.int⟩]
        exact h
      · have h0 : ¬ t = t2 := fun z => h0 (decide_eq_true (congrArg V.int z))
        rw [decide_eq_false h0, Bool.false_and] at h
        exact h
    · exact ⟨_, _, .own a.C_Part, h1, false, h2, iteF h⟩

end
end My

set_option Elab.async false
set_option maxRecDepth 100000
set_option maxHeartbeats 4000000
set_option linter.all false
namespace My
open PySem L2 Own
section
variable {P : Program} {w : World} {K : PySem.W.Frag} {mg : Str → Option Value} {base : Heap} {a : Adr}
/-! ### Purse: of rows in any order, names several times -/
def spPurseG (K : PySem.W.Frag) (C CP : Addr) : Sp := fun vs H Q _ => ∃ (p dx r : Addr) (ts : List Addr) (es : List (Str × Rat)) (b : Nat), vs = [.ref p, .ref r] ∧ H p = some (.ins C dx []) ∧ (SqL K H r (ts.map V.ref) ∨ SqT K H r (ts.map V.ref)) ∧ Paired (RowP CP H) ts es ∧
  (∀ e ∈ es, Sz e.2 b) ∧ 1 + es.length * (b + 1) ≤ 1000 ∧ es.length < 64 ∧
  ∀ H' hs d, Canon hs → (∀ n, val hs n = val es n) → (∀ b o, H b = some o → b ≠ p → H' b = some o) → H d = none → PurD C CP H' p d hs → Q .non H'
def PvG (CP : Addr) (H2 : Hp) (D : Addr) (es : List (Str × Rat)) (ys : List Str) (i : Nat) (H' : Hp) : Prop := ∃ kvs hs, H' = upd H2 D (.dK kvs) ∧ kvs.length ≤ i ∧ Paired (Ent (PartR CP H2)) kvs hs ∧ hs = (ys.take i).filterMap (pick es)
theorem pick_name {es : List (Str × Rat)} {ys : List Str} {i : Nat} {n : Str} (h : n ∈ ((ys.take i).filterMap (pick es)).map (·.1)) : n ∈ ys.take i := by
  obtain ⟨e, he, rfl⟩ := List.mem_map.mp h
  obtain ⟨m, hm, h2⟩ := List.mem_filterMap.mp he
  unfold pick at h2
  split at h2
  · cases h2
  · cases h2
    exact hm
theorem ok_Purse_init (T : Tx a K mg w) : FnOk P w K mg base CX0 4 a.f_Purse_init a.d_Purse_init ps_Purse_init (spPurseG K a.C_Purse a.C_Part) := by
  refine okD T.F_Purse_init sc_Purse_init (fun vs H Q E h => ?_) (fun cdv A outer s H vs Q E hr h => ?_)
  · obtain ⟨p, dx, r, ts, es, b, rfl, _⟩ := h
    rfl
  · obtain ⟨p, dx, r, ts, es, b, rfl, hp, hr0, hR, hsz, hbz, hln, k⟩ := h
    have hu := hu_of hr
    have G_Part_sign := ok_Part_sign (P := P) (w := w) (base := base) T
    have B_Part_sign := bnd_Part_sign T
    have hr_Part_sign : Room 1 _ := hr.mono (by decide)
    have G_Part_plus := ok_Part_plus (P := P) (w := w) (base := base) T
    have B_Part_plus := bnd_Part_plus T
    have hr_Part_plus : Room 3 _ := hr.mono (by decide)
    have hlt : ts.length = es.length := Paired.length hR
    have hz16 : sizeLine = 16777216 := rfl
    have hst : ∀ i, ∀ e ∈ sums (es.take i), Sz e.2 1000 := fun i e he => (sums_sz (fun x hx => hsz x (List.mem_of_mem_take hx)) e he).mono (by
      have h1 : (es.take i).length ≤ es.length := by rw [List.length_take]; omega
      have h2 : (es.take i).length * (b + 1) ≤ es.length * (b + 1) := Nat.mul_le_mul_right _ h1
      omega)
    have hb9 : ∀ e ∈ es, Sz e.2 1000 := fun e he => (hsz e he).mono (by
      have h1 : 1 ≤ es.length := List.length_pos_of_mem he
      have h2 : 1 * (b + 1) ≤ es.length * (b + 1) := Nat.mul_le_mul_right _ h1
      omega)
    rcases hr0 with hr0 | hr0
    · refine ⟨_, (pss_cons (ps_set (i := 2) sc_Purse_init.nd rfl (by first | exact Or.inl rfl | exact Or.inr rfl) pe_dnewK)
      (pss_cons (ps_for PassesOwn.never rfl (pi_list (pv 1)) (pg_tup rfl (pgs_cons (pg_name (i := 3) sc_Purse_init.nd rfl (by first | exact Or.inl rfl | exact Or.inr rfl)) (pgs_cons (pg_name (i := 4) sc_Purse_init.nd rfl (by first | exact Or.inl rfl | exact Or.inr rfl)) pgs_nil)) (by rfl))
        (pss_one (ps_dput hu (pv 2) (pv 3) (pe_ifExp (pt_cmp (pc_din hu (pv 3) (pv 2))) (pe_meth (pe_dget hu (pv 2) (pv 3) (fun _ _ => rfl)) T.cl_Part T.m_Part_plus G_Part_plus hr_Part_plus B_Part_plus .nil pass0 (pa_cons (pv 4) pa_nil)) (pv 4)) rfl)))
      (pss_one (ps_fld (pv 0) (pe_dc (own := [("coin", 3)]) (g := gName 3) rfl sc_Purse_init.nd (pi_list (pe_callB (cr_sortN rfl) (by rfl) T.no_sorted (by decide +kernel) (pa_cons (pv 2) pa_nil))) (blkOk_by (own := [("coin", 3)]) (N := N_Purse_init) (sc := defScope s_Purse_init) (by decide +kernel)) (fun _ _ _ _ _ => pg_name (i := 3) sc_Purse_init.nd rfl (Or.inl rfl)) (fun _ _ _ _ _ => (pts_one (pt_cmpR op_ne (pe_meth0 (pe_dget hu (pv 2) (pv 3) (fun _ _ => rfl)) T.cl_Part T.m_Part_sign G_Part_sign hr_Part_sign B_Part_sign .nil pass0) pe_int (nomark _)))) (fun _ _ _ _ _ => (pv 3)) (fun _ _ _ _ _ => (pe_dget hu (pv 2) (pv 3) (fun _ _ => rfl)))) rfl)))), ?_⟩
      show tSeq _ _ _ [some (V.ref p), some (V.ref r), none, none, none] H
      refine seq_i fun N hN => ?_
      simp only [tDNewK, tSeq, tIfS, tOp, tVar, tC, tCB, tCons, tNil, rI0, rI, tTest, tRet, tRetN, tNext, tAsg, gName, gNil, gCons, gTup, gUnl, tLst, tTup, tCall, tMeth, tMake, tUn, rU, tAndV, tOrV, tNotV, tAnd, tOr, tNot, tIf, tB, tFld, tDrop, tPar, tNever, tBM, rAppend, tSl, tPart, tNoPart, tM1, tyLst, List.getElem?_cons_zero, List.getElem?_cons_succ, Option.some.injEq, exists_eq_left', exists_eq_left, V.int.injEq, V.bl.injEq, V.str.injEq, V.ref.injEq, List.set_cons_zero, List.set_cons_succ, exists_and_left, exists_and_right, and_assoc, List.cons.injEq, and_true, true_and, List.cons_append, List.nil_append, List.append_nil, List.length_cons, List.length_nil, exists_eq', exists_eq, exists_const, exists_eq_right, exists_eq_right', cxK, Cx.nox, Cx.wish]
      intro d hd
      generalize hH1 : upd H d _ = H1
      obtain ⟨e1, f1⟩ := alloc hd hH1
      refine hN _ _ ?_
      clear hN N hH1
      have hr1 := seqL hr0 e1
      have hR1 := rowP_ext hR e1
      refine seq_i fun N hN => ?_
      refine tFor_i (J := Itl K r) (fun R q => by simp only [iList, tSeq, tIfS, tOp, tVar, tC, tCB, tCons, tNil, rI0, rI, tTest, tRet, tRetN, tNext, tAsg, gName, gNil, gCons, gTup, gUnl, tLst, tTup, tCall, tMeth, tMake, tUn, rU, tAndV, tOrV, tNotV, tAnd, tOr, tNot, tIf, tB, tFld, tDrop, tPar, tNever, tBM, rAppend, tSl, tPart, tNoPart, tM1, tyLst, List.getElem?_cons_zero, List.getElem?_cons_succ, Option.some.injEq, exists_eq_left', exists_eq_left, V.int.injEq, V.bl.injEq, V.str.injEq, V.ref.injEq, List.set_cons_zero, List.set_cons_succ, exists_and_left, exists_and_right, and_assoc, List.cons.injEq, and_true, true_and, List.cons_append, List.nil_append, List.append_nil, List.length_cons, List.length_nil, exists_eq', exists_eq, exists_const, exists_eq_right, exists_eq_right', cxK, Cx.nox, Cx.wish]; exact ⟨⟨_, hr1⟩, q⟩) (walk_list (K := K) (a := r) (xs := ts.map V.ref)) (fun i σ H' => ∃ v3 v4 kvs, σ = [some (V.ref p), some (V.ref r), some (V.ref d), v3, v4] ∧ Ext H H' ∧ SqL K H' r (ts.map V.ref) ∧ Paired (RowP a.C_Part H') ts es ∧ H' d = some (.dK kvs) ∧ Paired (Ent (PartR a.C_Part H')) kvs (sums (es.take i)))
        ⟨_, _, [], rfl, e1, hr1, hR1, f1, .nil⟩ (fun i σ H' _ h => by
          obtain ⟨_, _, _, _, _, h, _⟩ := h
          exact h) ?_ ?_
      · rintro i y σ H2 H3 hi ⟨v3, v4, kvs, rfl, e2, hr2, hR2, f2, hP⟩ ⟨rfl, hy⟩
        obtain ⟨t, hti, rfl⟩ : ∃ t, ts[i]? = some t ∧ y = V.ref t := by
          rw [List.getElem?_map] at hy
          cases e : ts[i]? with
          | none => rw [e] at hy; cases hy
          | some t => rw [e] at hy; exact ⟨t, rfl, (Option.some.inj hy).symm⟩
        obtain ⟨e, hei, q, ht, hq⟩ := LiI.paired_get hR2 hti
        have hkl : kvs.length = (sums (es.take i)).length := Paired.length hP
        have hsl := sums_len (rs := es.take i)
        rw [List.length_take] at hsl
        have hkz : kvs.length < sizeLine := by omega
        simp only [tDIn, sDPut, tDGet, tSeq, tIfS, tOp, tVar, tC, tCB, tCons, tNil, rI0, rI, tTest, tRet, tRetN, tNext, tAsg, gName, gNil, gCons, gTup, gUnl, tLst, tTup, tCall, tMeth, tMake, tUn, rU, tAndV, tOrV, tNotV, tAnd, tOr, tNot, tIf, tB, tFld, tDrop, tPar, tNever, tBM, rAppend, tSl, tPart, tNoPart, tM1, tyLst, List.getElem?_cons_zero, List.getElem?_cons_succ, Option.some.injEq, exists_eq_left', exists_eq_left, V.int.injEq, V.bl.injEq, V.str.injEq, V.ref.injEq, List.set_cons_zero, List.set_cons_succ, exists_and_left, exists_and_right, and_assoc, List.cons.injEq, and_true, true_and, List.cons_append, List.nil_append, List.append_nil, List.length_cons, List.length_nil, exists_eq', exists_eq, exists_const, exists_eq_right, exists_eq_right', cxK, Cx.nox, Cx.wish]
        refine ⟨_, ofT ht, rfl, ?_⟩
        simp only [tSeq, tIfS, tOp, tVar, tC, tCB, tCons, tNil, rI0, rI, tTest, tRet, tRetN, tNext, tAsg, gName, gNil, gCons, gTup, gUnl, tLst, tTup, tCall, tMeth, tMake, tUn, rU, tAndV, tOrV, tNotV, tAnd, tOr, tNot, tIf, tB, tFld, tDrop, tPar, tNever, tBM, rAppend, tSl, tPart, tNoPart, tM1, tyLst, List.getElem?_cons_zero, List.getElem?_cons_succ, Option.some.injEq, exists_eq_left', exists_eq_left, V.int.injEq, V.bl.injEq, V.str.injEq, V.ref.injEq, List.set_cons_zero, List.set_cons_succ, exists_and_left, exists_and_right, and_assoc, List.cons.injEq, and_true, true_and, List.cons_append, List.nil_append, List.append_nil, List.length_cons, List.length_nil, exists_eq', exists_eq, exists_const, exists_eq_right, exists_eq_right', cxK, Cx.nox, Cx.wish]
        refine ⟨_, DGet.k (k := Sum.inr e.1) f2, ?_⟩
        have fin : ∀ (H4 : Hp) (z : Addr), Ext H3 H4 → Paired (Ent (PartR a.C_Part H4)) (putK kvs (Sum.inr e.1) (V.ref z)) (addR (sums (es.take i)) e.1 e.2) →
            Ext H (upd H4 d (.dK (putK kvs (Sum.inr e.1) (V.ref z)))) ∧ SqL K (upd H4 d (.dK (putK kvs (Sum.inr e.1) (V.ref z)))) r (ts.map V.ref) ∧ Paired (RowP a.C_Part (upd H4 d (.dK (putK kvs (Sum.inr e.1) (V.ref z))))) ts es ∧
              ∃ kvs', upd H4 d (.dK (putK kvs (Sum.inr e.1) (V.ref z))) d = some (.dK kvs') ∧ Paired (Ent (PartR a.C_Part (upd H4 d (.dK (putK kvs (Sum.inr e.1) (V.ref z)))))) kvs' (sums (es.take (i + 1))) := fun H4 z e34 hP4 => by
          have f4 := e34 _ _ f2
          have oD : Off d H4 (upd H4 d (.dK (putK kvs (Sum.inr e.1) (V.ref z)))) := Off.upd
          have eH : Ext H (upd H4 d (.dK (putK kvs (Sum.inr e.1) (V.ref z)))) := upd_ext (e2.trans e34) hd
          refine ⟨eH, seqL hr0 eH, rowP_ext hR eH, _, upd_same, ?_⟩
          rw [take_snoc hei, sums_snoc]
          exact ent_mono hP4 fun _ _ y => y.off f4 oD
        by_cases hn : e.1 ∈ (sums (es.take i)).map (·.1)
        · obtain ⟨x, hx, hx1⟩ := List.mem_map.mp hn
          obtain ⟨q0, hv, hq0⟩ := ent_get hP sums_nd hx
          rw [hx1] at hv
          rw [hv]
          refine iteT ⟨_, hv ▸ DGet.k (k := Sum.inr e.1) f2, ?_⟩
          obtain ⟨dq0, hq00⟩ := hq0
          refine ⟨q0, rfl, _, _, hq00, fsP_no _ _ (by decide +kernel) (by decide +kernel), ?_⟩
          refine plus_r (x := x.2) ⟨dq0, hq00⟩ hq (hst i x hx) (hb9 e (List.mem_of_getElem? hei)) fun z H4 e4 _ hz => ?_
          refine ⟨_, DPut.k (k := Sum.inr e.1) (e4 _ _ f2) hkz, ?_⟩
          exact fin H4 z e4 (ent_put_old (ent_mono hP fun _ _ y => y.ext e4) sums_nd (by rw [← hx1]; exact hx) hz)
        · rw [val_none (ent_miss hP hn)]
          refine iteF ⟨_, DPut.k (k := Sum.inr e.1) f2 hkz, ?_⟩
          exact fin H3 q (Ext.refl' _) (ent_put_new hP hn hq)
      · rintro σ H2 ⟨v3, v4, kvs, rfl, e2, hr2, hR2, f2, hP⟩
        refine hN _ _ ?_
        clear hN N
        rw [List.take_of_length_le (by rw [List.length_map]; omega)] at hP
        have hkl : kvs.length = (sums es).length := Paired.length hP
        have hsl := sums_len (rs := es)
        simp only [sFld, tSeq, tIfS, tOp, tVar, tC, tCB, tCons, tNil, rI0, rI, tTest, tRet, tRetN, tNext, tAsg, gName, gNil, gCons, gTup, gUnl, tLst, tTup, tCall, tMeth, tMake, tUn, rU, tAndV, tOrV, tNotV, tAnd, tOr, tNot, tIf, tB, tFld, tDrop, tPar, tNever, tBM, rAppend, tSl, tPart, tNoPart, tM1, tyLst, List.getElem?_cons_zero, List.getElem?_cons_succ, Option.some.injEq, exists_eq_left', exists_eq_left, V.int.injEq, V.bl.injEq, V.str.injEq, V.ref.injEq, List.set_cons_zero, List.set_cons_succ, exists_and_left, exists_and_right, and_assoc, List.cons.injEq, and_true, true_and, List.cons_append, List.nil_append, List.append_nil, List.length_cons, List.length_nil, exists_eq', exists_eq, exists_const, exists_eq_right, exists_eq_right', cxK, Cx.nox, Cx.wish]
        refine dc_sorted (ks := (sums es).map (·.1)) rfl f2 (ent_keys hP) (by rw [List.length_map]; omega) fun ys s0 D H3 hy hsrt e3 f3 hD => ?_
        have f2' : H3 d = some (.dK kvs) := e3 _ _ f2
        have eD : ∀ u, Ext H3 (upd H3 D u) := fun u => Ext.upd hD
        have hP3 := ent_mono (R' := PartR a.C_Part H3) hP fun _ _ y => y.ext e3
        have ndy : ys.Nodup := hy.nodup_iff.mpr sums_nd
        have hyl : ys.length = (sums es).length := by rw [hy.length_eq, List.length_map]
        refine ⟨PvG a.C_Part H3 D (sums es) ys, ⟨[], [], rfl, Nat.le_refl _, .nil, rfl⟩, ?_, ?_, ?_⟩
        · rintro i H' ⟨_, _, rfl, _⟩
          exact eD _ _ _ f3
        · rintro i y H' hy2 ⟨kvs2, hs2, rfl, hk2, hP4, hs⟩
          have hil : i < ys.length := (List.getElem?_eq_some_iff.mp hy2).1
          obtain ⟨e, he, rfl⟩ := List.mem_map.mp (hy.mem_iff.mp (List.mem_of_getElem? hy2))
          obtain ⟨q, hv, dq, hq⟩ := ent_get hP3 sums_nd he
          refine ⟨rfl, ?_⟩
          have ew : (wipe [some (V.ref p), some (V.ref r), some (V.ref d), v3, v4] (List.map (fun x => x.snd) [(Str.ofString "coin", 3)])) = [some (V.ref p), some (V.ref r), some (V.ref d), none, v4] := rfl
          have fd : upd H3 D (.dK kvs2) d = some (.dK kvs) := eD _ _ _ f2'
          have hq2 : ∀ u, upd H3 D u q = some (.ins a.C_Part dq (fsP e.2.num e.2.den)) := fun u => eD _ _ _ hq
          simp only [ew, tDGet, rNe, tSeq, tIfS, tOp, tVar, tC, tCB, tCons, tNil, rI0, rI, tTest, tRet, tRetN, tNext, tAsg, gName, gNil, gCons, gTup, gUnl, tLst, tTup, tCall, tMeth, tMake, tUn, rU, tAndV, tOrV, tNotV, tAnd, tOr, tNot, tIf, tB, tFld, tDrop, tPar, tNever, tBM, rAppend, tSl, tPart, tNoPart, tM1, tyLst, List.getElem?_cons_zero, List.getElem?_cons_succ, Option.some.injEq, exists_eq_left', exists_eq_left, V.int.injEq, V.bl.injEq, V.str.injEq, V.ref.injEq, List.set_cons_zero, List.set_cons_succ, exists_and_left, exists_and_right, and_assoc, List.cons.injEq, and_true, true_and, List.cons_append, List.nil_append, List.append_nil, List.length_cons, List.length_nil, exists_eq', exists_eq, exists_const, exists_eq_right, exists_eq_right', cxK, Cx.nox, Cx.wish]
          have hve := val_mem (n := e.1) sums_nd he
          refine ⟨V.ref q, hv ▸ DGet.k (k := Sum.inr e.1) fd, q, rfl, _, _, hq2 _, fsP_no _ _ (m := "sign") (by decide +kernel) (by decide +kernel), q, _, _, rfl, ⟨dq, hq2 _⟩, rfl, ite2 (fun hb => ?_) (fun hb => ?_)⟩
          · have hne : ¬ e.2 = 0 := fun z => by
              rw [z] at hb
              revert hb
              decide +kernel
            have hm : ∀ kv ∈ kvs2, ¬ kv.1 = Sum.inr e.1 := ent_miss hP4 fun z => by
              rw [hs] at z
              have hu1 := pick_name z
              have nd2 := ndy
              rw [← List.take_append_drop i ys] at nd2
              refine (List.nodup_append.mp nd2).2.2 e.1 hu1 e.1 ?_ rfl
              rw [List.mem_iff_getElem?]
              exact ⟨0, by rw [List.getElem?_drop]; simpa using hy2⟩
            refine ⟨V.ref q, hv ▸ DGet.k (k := Sum.inr e.1) fd, kvs2, Sum.inr e.1, rfl, upd_same, by omega, ?_⟩
            rw [upd_upd, put_new hm]
            refine ⟨_, hs2 ++ [e], rfl, by rw [List.length_append]; exact Nat.succ_le_succ hk2, Paired.snoc hP4 ⟨q, rfl, dq, hq⟩, ?_⟩
            rw [take_snoc hy2, List.filterMap_append, ← hs, List.filterMap_cons]
            unfold pick
            rw [hve, if_neg hne]
            rfl
          · have hz : e.2 = 0 := by
              have hs0 : sgn e.2.num = 0 := by
                cases hd : decide (V.int (sgn e.2.num) = V.int 0) with
                | true => exact V.int.inj (of_decide_eq_true hd)
                | false => exact absurd (by rw [hd]; rfl) hb
              have hn0 : e.2.num = 0 := by
                unfold sgn at hs0
                split at hs0
                · assumption
                · split at hs0
                  · cases hs0
                  · cases hs0
              rw [← Rat.num_divInt_den e.2, hn0, Rat.zero_divInt]
            refine ⟨kvs2, hs2, rfl, by omega, hP4, ?_⟩
            rw [take_snoc hy2, List.filterMap_append, ← hs, List.filterMap_cons]
            unfold pick
            rw [hve, if_pos hz]
            exact (List.append_nil _).symm
        · rintro H' ⟨kvs2, hs2, rfl, hk2, hP4, hs⟩
          rw [List.take_length] at hs
          have hp2 : upd H3 D (.dK kvs2) p = some (.ins a.C_Purse dx []) := eD _ _ _ (e3 _ _ (e2 _ _ hp))
          refine ⟨_, _, _, hp2, T.cl_Purse, T.na_Purse__held, (by show 0 < 1000; decide), ?_⟩
          have hDp : D ≠ p := fun z => by
            rw [z, e3 _ _ (e2 _ _ hp)] at hD
            cases hD
          have hcan : Canon hs2 := hs ▸ pick_canon hsrt ndy
          have hval : ∀ n, val hs2 n = val es n := fun n => by
            rw [hs, pick_val ndy (fun m hm => hy.mem_iff.mpr (Classical.byContradiction fun z => hm (val_miss z))), sums_val]
          refine k _ hs2 D hcan hval (fun b o hb hne => ?_) (none_back (e2.trans e3) hD) ⟨dx, kvs2, upd_same, by rw [upd_ne hDp]; exact upd_same, ent_mono hP4 fun q x y => ?_⟩
          · rw [upd_ne hne]
            exact eD _ _ _ (e3 _ _ (e2 _ _ hb))
          · obtain ⟨dq, z2⟩ := y
            refine ⟨dq, ?_⟩
            rw [upd_ne (fun y => by
              have := eD (.dK kvs2) _ _ z2
              rw [y, hp2] at this
              have := HO.ins.inj (Option.some.inj this)
              cases this.2.2)]
            exact eD _ _ _ z2

    · refine ⟨_, (pss_cons (ps_set (i := 2) sc_Purse_init.nd rfl (by first | exact Or.inl rfl | exact Or.inr rfl) pe_dnewK)
      (pss_cons (ps_for PassesOwn.never rfl (pi_tup (pv 1)) (pg_tup rfl (pgs_cons (pg_name (i := 3) sc_Purse_init.nd rfl (by first | exact Or.inl rfl | exact Or.inr rfl)) (pgs_cons (pg_name (i := 4) sc_Purse_init.nd rfl (by first | exact Or.inl rfl | exact Or.inr rfl)) pgs_nil)) (by rfl))
        (pss_one (ps_dput hu (pv 2) (pv 3) (pe_ifExp (pt_cmp (pc_din hu (pv 3) (pv 2))) (pe_meth (pe_dget hu (pv 2) (pv 3) (fun _ _ => rfl)) T.cl_Part T.m_Part_plus G_Part_plus hr_Part_plus B_Part_plus .nil pass0 (pa_cons (pv 4) pa_nil)) (pv 4)) rfl)))
      (pss_one (ps_fld (pv 0) (pe_dc (own := [("coin", 3)]) (g := gName 3) rfl sc_Purse_init.nd (pi_list (pe_callB (cr_sortN rfl) (by rfl) T.no_sorted (by decide +kernel) (pa_cons (pv 2) pa_nil))) (blkOk_by (own := [("coin", 3)]) (N := N_Purse_init) (sc := defScope s_Purse_init) (by decide +kernel)) (fun _ _ _ _ _ => pg_name (i := 3) sc_Purse_init.nd rfl (Or.inl rfl)) (fun _ _ _ _ _ => (pts_one (pt_cmpR op_ne (pe_meth0 (pe_dget hu (pv 2) (pv 3) (fun _ _ => rfl)) T.cl_Part T.m_Part_sign G_Part_sign hr_Part_sign B_Part_sign .nil pass0) pe_int (nomark _)))) (fun _ _ _ _ _ => (pv 3)) (fun _ _ _ _ _ => (pe_dget hu (pv 2) (pv 3) (fun _ _ => rfl)))) rfl)))), ?_⟩
      show tSeq _ _ _ [some (V.ref p), some (V.ref r), none, none, none] H
      refine seq_i fun N hN => ?_
      simp only [tDNewK, tSeq, tIfS, tOp, tVar, tC, tCB, tCons, tNil, rI0, rI, tTest, tRet, tRetN, tNext, tAsg, gName, gNil, gCons, gTup, gUnl, tLst, tTup, tCall, tMeth, tMake, tUn, rU, tAndV, tOrV, tNotV, tAnd, tOr, tNot, tIf, tB, tFld, tDrop, tPar, tNever, tBM, rAppend, tSl, tPart, tNoPart, tM1, tyLst, List.getElem?_cons_zero, List.getElem?_cons_succ, Option.some.injEq, exists_eq_left', exists_eq_left, V.int.injEq, V.bl.injEq, V.str.injEq, V.ref.injEq, List.set_cons_zero, List.set_cons_succ, exists_and_left, exists_and_right, and_assoc, List.cons.injEq, and_true, true_and, List.cons_append, List.nil_append, List.append_nil, List.length_cons, List.length_nil, exists_eq', exists_eq, exists_const, exists_eq_right, exists_eq_right', cxK, Cx.nox, Cx.wish]
      intro d hd
      generalize hH1 : upd H d _ = H1
      obtain ⟨e1, f1⟩ := alloc hd hH1
      refine hN _ _ ?_
      clear hN N hH1
      have hr1 := SqT.ext hr0 e1
      have hR1 := rowP_ext hR e1
      refine seq_i fun N hN => ?_
      refine tFor_i (J := Itt K r) (fun R q => by simp only [iTup, tSeq, tIfS, tOp, tVar, tC, tCB, tCons, tNil, rI0, rI, tTest, tRet, tRetN, tNext, tAsg, gName, gNil, gCons, gTup, gUnl, tLst, tTup, tCall, tMeth, tMake, tUn, rU, tAndV, tOrV, tNotV, tAnd, tOr, tNot, tIf, tB, tFld, tDrop, tPar, tNever, tBM, rAppend, tSl, tPart, tNoPart, tM1, tyLst, List.getElem?_cons_zero, List.getElem?_cons_succ, Option.some.injEq, exists_eq_left', exists_eq_left, V.int.injEq, V.bl.injEq, V.str.injEq, V.ref.injEq, List.set_cons_zero, List.set_cons_succ, exists_and_left, exists_and_right, and_assoc, List.cons.injEq, and_true, true_and, List.cons_append, List.nil_append, List.append_nil, List.length_cons, List.length_nil, exists_eq', exists_eq, exists_const, exists_eq_right, exists_eq_right', cxK, Cx.nox, Cx.wish]; exact ⟨⟨_, hr1⟩, q⟩) (walk_tup (K := K) (a := r) (xs := ts.map V.ref)) (fun i σ H' => ∃ v3 v4 kvs, σ = [some (V.ref p), some (V.ref r), some (V.ref d), v3, v4] ∧ Ext H H' ∧ SqT K H' r (ts.map V.ref) ∧ Paired (RowP a.C_Part H') ts es ∧ H' d = some (.dK kvs) ∧ Paired (Ent (PartR a.C_Part H')) kvs (sums (es.take i)))
        ⟨_, _, [], rfl, e1, hr1, hR1, f1, .nil⟩ (fun i σ H' _ h => by
          obtain ⟨_, _, _, _, _, h, _⟩ := h
          exact h) ?_ ?_
      · rintro i y σ H2 H3 hi ⟨v3, v4, kvs, rfl, e2, hr2, hR2, f2, hP⟩ ⟨rfl, hy⟩
        obtain ⟨t, hti, rfl⟩ : ∃ t, ts[i]? = some t ∧ y = V.ref t := by
          rw [List.getElem?_map] at hy
          cases e : ts[i]? with
          | none => rw [e] at hy; cases hy
          | some t => rw [e] at hy; exact ⟨t, rfl, (Option.some.inj hy).symm⟩
        obtain ⟨e, hei, q, ht, hq⟩ := LiI.paired_get hR2 hti
        have hkl : kvs.length = (sums (es.take i)).length := Paired.length hP
        have hsl := sums_len (rs := es.take i)
        rw [List.length_take] at hsl
        have hkz : kvs.length < sizeLine := by omega
        simp only [tDIn, sDPut, tDGet, tSeq, tIfS, tOp, tVar, tC, tCB, tCons, tNil, rI0, rI, tTest, tRet, tRetN, tNext, tAsg, gName, gNil, gCons, gTup, gUnl, tLst, tTup, tCall, tMeth, tMake, tUn, rU, tAndV, tOrV, tNotV, tAnd, tOr, tNot, tIf, tB, tFld, tDrop, tPar, tNever, tBM, rAppend, tSl, tPart, tNoPart, tM1, tyLst, List.getElem?_cons_zero, List.getElem?_cons_succ, Option.some.injEq, exists_eq_left', exists_eq_left, V.int.injEq, V.bl.injEq, V.str.injEq, V.ref.injEq, List.set_cons_zero, List.set_cons_succ, exists_and_left, exists_and_right, and_assoc, List.cons.injEq, and_true, true_and, List.cons_append, List.nil_append, List.append_nil, List.length_cons, List.length_nil, exists_eq', exists_eq, exists_const, exists_eq_right, exists_eq_right', cxK, Cx.nox, Cx.wish]
        refine ⟨_, ofT ht, rfl, ?_⟩
        simp only [tSeq, tIfS, tOp, tVar, tC, tCB, tCons, tNil, rI0, rI, tTest, tRet, tRetN, tNext, tAsg, gName, gNil, gCons, gTup, gUnl, tLst, tTup, tCall, tMeth, tMake, tUn, rU, tAndV, tOrV, tNotV, tAnd, tOr, tNot, tIf, tB, tFld, tDrop, tPar, tNever, tBM, rAppend, tSl, tPart, tNoPart, tM1, tyLst, List.getElem?_cons_zero, List.getElem?_cons_succ, Option.some.injEq, exists_eq_left', exists_eq_left, V.int.injEq, V.bl.injEq, V.str.injEq, V.ref.injEq, List.set_cons_zero, List.set_cons_succ, exists_and_left, exists_and_right, and_assoc, List.cons.injEq, and_true, true_and, List.cons_append, List.nil_append, List.append_nil, List.length_cons, List.length_nil, exists_eq', exists_eq, exists_const, exists_eq_right, exists_eq_right', cxK, Cx.nox, Cx.wish]
        refine ⟨_, DGet.k (k := Sum.inr e.1) f2, ?_⟩
        have fin : ∀ (H4 : Hp) (z : Addr), Ext H3 H4 → Paired (Ent (PartR a.C_Part H4)) (putK kvs (Sum.inr e.1) (V.ref z)) (addR (sums (es.take i)) e.1 e.2) →
            Ext H (upd H4 d (.dK (putK kvs (Sum.inr e.1) (V.ref z)))) ∧ SqT K (upd H4 d (.dK (putK kvs (Sum.inr e.1) (V.ref z)))) r (ts.map V.ref) ∧ Paired (RowP a.C_Part (upd H4 d (.dK (putK kvs (Sum.inr e.1) (V.ref z))))) ts es ∧
              ∃ kvs', upd H4 d (.dK (putK kvs (Sum.inr e.1) (V.ref z))) d = some (.dK kvs') ∧ Paired (Ent (PartR a.C_Part (upd H4 d (.dK (putK kvs (Sum.inr e.1) (V.ref z)))))) kvs' (sums (es.take (i + 1))) := fun H4 z e34 hP4 => by
          have f4 := e34 _ _ f2
          have oD : Off d H4 (upd H4 d (.dK (putK kvs (Sum.inr e.1) (V.ref z)))) := Off.upd
          have eH : Ext H (upd H4 d (.dK (putK kvs (Sum.inr e.1) (V.ref z)))) := upd_ext (e2.trans e34) hd
          refine ⟨eH, SqT.ext hr0 eH, rowP_ext hR eH, _, upd_same, ?_⟩
          rw [take_snoc hei, sums_snoc]
          exact ent_mono hP4 fun _ _ y => y.off f4 oD
        by_cases hn : e.1 ∈ (sums (es.take i)).map (·.1)
        · obtain ⟨x, hx, hx1⟩ := List.mem_map.mp hn
          obtain ⟨q0, hv, hq0⟩ := ent_get hP sums_nd hx
          rw [hx1] at hv
          rw [hv]
          refine iteT ⟨_, hv ▸ DGet.k (k := Sum.inr e.1) f2, ?_⟩
          obtain ⟨dq0, hq00⟩ := hq0
          refine ⟨q0, rfl, _, _, hq00, fsP_no _ _ (by decide +kernel) (by decide +kernel), ?_⟩
          refine plus_r (x := x.2) ⟨dq0, hq00⟩ hq (hst i x hx) (hb9 e (List.mem_of_getElem? hei)) fun z H4 e4 _ hz => ?_
          refine ⟨_, DPut.k (k := Sum.inr e.1) (e4 _ _ f2) hkz, ?_⟩
          exact fin H4 z e4 (ent_put_old (ent_mono hP fun _ _ y => y.ext e4) sums_nd (by rw [← hx1]; exact hx) hz)
        · rw [val_none (ent_miss hP hn)]
          refine iteF ⟨_, DPut.k (k := Sum.inr e.1) f2 hkz, ?_⟩
          exact fin H3 q (Ext.refl' _) (ent_put_new hP hn hq)
      · rintro σ H2 ⟨v3, v4, kvs, rfl, e2, hr2, hR2, f2, hP⟩
        refine hN _ _ ?_
        clear hN N
        rw [List.take_of_length_le (by rw [List.length_map]; omega)] at hP
        have hkl : kvs.length = (sums es).length := Paired.length hP
        have hsl := sums_len (rs := es)
        simp only [sFld, tSeq, tIfS, tOp, tVar, tC, tCB, tCons, tNil, rI0, rI, tTest, tRet, tRetN, tNext, tAsg, gName, gNil, gCons, gTup, gUnl, tLst, tTup, tCall, tMeth, tMake, tUn, rU, tAndV, tOrV, tNotV, tAnd, tOr, tNot, tIf, tB, tFld, tDrop, tPar, tNever, tBM, rAppend, tSl, tPart, tNoPart, tM1, tyLst, List.getElem?_cons_zero, List.getElem?_cons_succ, Option.some.injEq, exists_eq_left', exists_eq_left, V.int.injEq, V.bl.injEq, V.str.injEq, V.ref.injEq, List.set_cons_zero, List.set_cons_succ, exists_and_left, exists_and_right, and_assoc, List.cons.injEq, and_true, true_and, List.cons_append, List.nil_append, List.append_nil, List.length_cons, List.length_nil, exists_eq', exists_eq, exists_const, exists_eq_right, exists_eq_right', cxK, Cx.nox, Cx.wish]
        refine dc_sorted (ks := (sums es).map (·.1)) rfl f2 (ent_keys hP) (by rw [List.length_map]; omega) fun ys s0 D H3 hy hsrt e3 f3 hD => ?_
        have f2' : H3 d = some (.dK kvs) := e3 _ _ f2
        have eD : ∀ u, Ext H3 (upd H3 D u) := fun u => Ext.upd hD
        have hP3 := ent_mono (R' := PartR a.C_Part H3) hP fun _ _ y => y.ext e3
        have ndy : ys.Nodup := hy.nodup_iff.mpr sums_nd
        have hyl : ys.length = (sums es).length := by rw [hy.length_eq, List.length_map]
        refine ⟨PvG a.C_Part H3 D (sums es) ys, ⟨[], [], rfl, Nat.le_refl _, .nil, rfl⟩, ?_, ?_, ?_⟩
        · rintro i H' ⟨_, _, rfl, _⟩
          exact eD _ _ _ f3
        · rintro i y H' hy2 ⟨kvs2, hs2, rfl, hk2, hP4, hs⟩
          have hil : i < ys.length := (List.getElem?_eq_some_iff.mp hy2).1
          obtain ⟨e, he, rfl⟩ := List.mem_map.mp (hy.mem_iff.mp (List.mem_of_getElem? hy2))
          obtain ⟨q, hv, dq, hq⟩ := ent_get hP3 sums_nd he
          refine ⟨rfl, ?_⟩
          have ew : (wipe [some (V.ref p), some (V.ref r), some (V.ref d), v3, v4] (List.map (fun x => x.snd) [(Str.ofString "coin", 3)])) = [some (V.ref p), some (V.ref r), some (V.ref d), none, v4] := rfl
          have fd : upd H3 D (.dK kvs2) d = some (.dK kvs) := eD _ _ _ f2'
          have hq2 : ∀ u, upd H3 D u q = some (.ins a.C_Part dq (fsP e.2.num e.2.den)) := fun u => eD _ _ _ hq
          simp only [ew, tDGet, rNe, tSeq, tIfS, tOp, tVar, tC, tCB, tCons, tNil, rI0, rI, tTest, tRet, tRetN, tNext, tAsg, gName, gNil, gCons, gTup, gUnl, tLst, tTup, tCall, tMeth, tMake, tUn, rU, tAndV, tOrV, tNotV, tAnd, tOr, tNot, tIf, tB, tFld, tDrop, tPar, tNever, tBM, rAppend, tSl, tPart, tNoPart, tM1, tyLst, List.getElem?_cons_zero, List.getElem?_cons_succ, Option.some.injEq, exists_eq_left', exists_eq_left, V.int.injEq, V.bl.injEq, V.str.injEq, V.ref.injEq, List.set_cons_zero, List.set_cons_succ, exists_and_left, exists_and_right, and_assoc, List.cons.injEq, and_true, true_and, List.cons_append, List.nil_append, List.append_nil, List.length_cons, List.length_nil, exists_eq', exists_eq, exists_const, exists_eq_right, exists_eq_right', cxK, Cx.nox, Cx.wish]
          have hve := val_mem (n := e.1) sums_nd he
          refine ⟨V.ref q, hv ▸ DGet.k (k := Sum.inr e.1) fd, q, rfl, _, _, hq2 _, fsP_no _ _ (m := "sign") (by decide +kernel) (by decide +kernel), q, _, _, rfl, ⟨dq, hq2 _⟩, rfl, ite2 (fun hb => ?_) (fun hb => ?_)⟩
          · have hne : ¬ e.2 = 0 := fun z => by
              rw [z] at hb
              revert hb
              decide +kernel
            have hm : ∀ kv ∈ kvs2, ¬ kv.1 = Sum.inr e.1 := ent_miss hP4 fun z => by
              rw [hs] at z
              have hu1 := pick_name z
              have nd2 := ndy
              rw [← List.take_append_drop i ys] at nd2
              refine (List.nodup_append.mp nd2).2.2 e.1 hu1 e.1 ?_ rfl
              rw [List.mem_iff_getElem?]
              exact ⟨0, by rw [List.getElem?_drop]; simpa using hy2⟩
            refine ⟨V.ref q, hv ▸ DGet.k (k := Sum.inr e.1) fd, kvs2, Sum.inr e.1, rfl, upd_same, by omega, ?_⟩
            rw [upd_upd, put_new hm]
            refine ⟨_, hs2 ++ [e], rfl, by rw [List.length_append]; exact Nat.succ_le_succ hk2, Paired.snoc hP4 ⟨q, rfl, dq, hq⟩, ?_⟩
            rw [take_snoc hy2, List.filterMap_append, ← hs, List.filterMap_cons]
            unfold pick
            rw [hve, if_neg hne]
            rfl
          · have hz : e.2 = 0 := by
              have hs0 : sgn e.2.num = 0 := by
                cases hd : decide (V.int (sgn e.2.num) = V.int 0) with
                | true => exact V.int.inj (of_decide_eq_true hd)
                | false => exact absurd (by rw [hd]; rfl) hb
              have hn0 : e.2.num = 0 := by
                unfold sgn at hs0
                split at hs0
                · assumption
                · split at hs0
                  · cases hs0
                  · cases hs0
              rw [← Rat.num_divInt_den e.2, hn0, Rat.zero_divInt]
            refine ⟨kvs2, hs2, rfl, by omega, hP4, ?_⟩
            rw [take_snoc hy2, List.filterMap_append, ← hs, List.filterMap_cons]
            unfold pick
            rw [hve, if_pos hz]
            exact (List.append_nil _).symm
        · rintro H' ⟨kvs2, hs2, rfl, hk2, hP4, hs⟩
          rw [List.take_length] at hs
          have hp2 : upd H3 D (.dK kvs2) p = some (.ins a.C_Purse dx []) := eD _ _ _ (e3 _ _ (e2 _ _ hp))
          refine ⟨_, _, _, hp2, T.cl_Purse, T.na_Purse__held, (by show 0 < 1000; decide), ?_⟩
          have hDp : D ≠ p := fun z => by
            rw [z, e3 _ _ (e2 _ _ hp)] at hD
            cases hD
          have hcan : Canon hs2 := hs ▸ pick_canon hsrt ndy
          have hval : ∀ n, val hs2 n = val es n := fun n => by
            rw [hs, pick_val ndy (fun m hm => hy.mem_iff.mpr (Classical.byContradiction fun z => hm (val_miss z))), sums_val]
          refine k _ hs2 D hcan hval (fun b o hb hne => ?_) (none_back (e2.trans e3) hD) ⟨dx, kvs2, upd_same, by rw [upd_ne hDp]; exact upd_same, ent_mono hP4 fun q x y => ?_⟩
          · rw [upd_ne hne]
            exact eD _ _ _ (e3 _ _ (e2 _ _ hb))
          · obtain ⟨dq, z2⟩ := y
            refine ⟨dq, ?_⟩
            rw [upd_ne (fun y => by
              have := eD (.dK kvs2) _ _ z2
              rw [y, hp2] at this
              have := HO.ins.inj (Option.some.inj this)
              cases this.2.2)]
            exact eD _ _ _ z2


end
end My

set_option Elab.async false
set_option maxRecDepth 100000
set_option maxHeartbeats 4000000
set_option linter.all false
namespace My
open PySem L2 Own
section
variable {P : Program} {w : World} {K : PySem.W.Frag} {mg : Str → Option Value} {base : Heap} {a : Adr}
/-! ### Purse.at, Purse.coins -/
def spAt (C CP : Addr) : Sp := fun vs H Q _ => ∃ (p d : Addr) (n : Str) (hs : List (Str × Rat)), vs = [.ref p, .str n] ∧ PurD C CP H p d hs ∧ (hs.map (·.1)).Nodup ∧ ∀ q H', Ext H H' → PartR CP H' q (val hs n) → Q (.ref q) H'
theorem ok_Purse_at (T : Tx a K mg w) : FnOk P w K mg base CX0 3 a.f_Purse_at a.d_Purse_at ps_Purse_at (spAt a.C_Purse a.C_Part) := by
  refine T.F_Purse_at.ok sc_Purse_at (fun vs H Q E h => ?_) (fun cdv A outer s H vs Q E hr h => ?_)
  · obtain ⟨p, d, n, hs, rfl, _⟩ := h
    rfl
  · obtain ⟨p, d, n, hs, rfl, ⟨dx, kvs, hp, hd, hP⟩, nd, k⟩ := h
    have hu := hu_of hr
    have G_Part_init := ok_Part_init (P := P) (w := w) (base := base) T
    obtain ⟨_, D_Part_init_1, B_Part_init_1⟩ := bnd_Part_init_1 T
    obtain ⟨_, D_Part_init_2, B_Part_init_2⟩ := bnd_Part_init_2 T
    have hr_Part_init : Room 1 _ := hr.mono (by decide)
    have hr1_Part_init : Room 2 _ := hr.mono (by decide)
    refine ⟨_, (pss_one (ps_ret (pe_ifExp (pt_cmp (pc_din hu (pv 1) (pe_fld (pv 0) rfl))) (pe_dget hu (pe_fld (pv 0) rfl) (pv 1) (fun _ _ => rfl)) (pe_make T.mk_Part G_Part_init hr1_Part_init (by rfl) T.mg_Part B_Part_init_1 D_Part_init_1 pass0 (pa_cons pe_int pa_nil))))), ?_⟩
    show tRet _ _ [some (V.ref p), some (V.str n)] H
    simp only [tDIn, tDGet, tSeq, tIfS, tOp, tVar, tC, tCB, tCons, tNil, rI0, rI, tTest, tRet, tRetN, tNext, tAsg, gName, gNil, gCons, gTup, gUnl, tLst, tTup, tCall, tMeth, tMake, tUn, rU, tAndV, tOrV, tNotV, tAnd, tOr, tNot, tIf, tB, tFld, tDrop, tPar, tNever, tBM, rAppend, tSl, tPart, tNoPart, tM1, tyLst, List.getElem?_cons_zero, List.getElem?_cons_succ, Option.some.injEq, exists_eq_left', exists_eq_left, V.int.injEq, V.bl.injEq, V.str.injEq, V.ref.injEq, List.set_cons_zero, List.set_cons_succ, exists_and_left, exists_and_right, and_assoc, List.cons.injEq, and_true, true_and, List.cons_append, List.nil_append, List.append_nil, List.length_cons, List.length_nil, exists_eq', exists_eq, exists_const, exists_eq_right, exists_eq_right', cxK, Cx.nox, Cx.wish]
    have hf := held_yes (v := V.ref d)
    refine ⟨_, _, _, hp, T.cl_Purse, T.na_Purse__held, _, hf, d, rfl, _, DGet.k (k := Sum.inr n) hd, ?_⟩
    by_cases hn : n ∈ hs.map (·.1)
    · obtain ⟨e, he, rfl⟩ := List.mem_map.mp hn
      obtain ⟨q, hv, hq⟩ := ent_get hP nd he
      rw [hv]
      refine iteT ⟨_, _, _, hp, T.cl_Purse, T.na_Purse__held, _, hf, d, rfl, _, hv ▸ DGet.k (k := Sum.inr e.1) hd, ?_⟩
      refine k q H (Ext.refl' _) ?_
      rw [val_mem (n := e.1) nd he]
      exact hq
    · rw [val_none (ent_miss hP hn)]
      refine iteF fun x dx2 hx hdx _ => ?_
      refine mk_partR (t := 0) (l := 1) hx hdx (by decide) (by decide) (Nat.lt_of_lt_of_le (show (1 : Int).natAbs < 2 ^ 1 by decide) (Nat.pow_le_pow_right (by decide) (by decide))) fun H1 e1 P1 => ⟨rfl, k x H1 e1 ?_⟩
      rw [val_miss hn]
      rw [show Rat.divInt 0 1 = 0 by decide +kernel] at P1
      exact P1
def spCoins (C CP : Addr) : Sp := fun vs H Q _ => ∃ (p d : Addr) (hs : List (Str × Rat)), vs = [.ref p] ∧ PurD C CP H p d hs ∧ ∀ q H', Ext H H' → H q = none → H' q = some (.lst ((hs.map (·.1)).map V.str)) → Q (.ref q) H'
theorem ok_Purse_coins (T : Tx a K mg w) : FnOk P w K mg base CX0 1 a.f_Purse_coins a.d_Purse_coins ps_Purse_coins (spCoins a.C_Purse a.C_Part) := by
  refine T.F_Purse_coins.ok sc_Purse_coins (fun vs H Q E h => ?_) (fun cdv A outer s H vs Q E hr h => ?_)
  · obtain ⟨p, d, hs, rfl, _⟩ := h
    rfl
  · obtain ⟨p, d, hs, rfl, ⟨dx, kvs, hp, hd, hP⟩, k⟩ := h
    refine ⟨_, (pss_one (ps_ret (pe_callTy (call_listD rfl) (by rfl) T.no_list (by decide +kernel) (pa_cons (pe_fld (pv 0) rfl) pa_nil)))), ?_⟩
    show tRet _ _ [some (V.ref p)] H
    simp only [tSeq, tIfS, tOp, tVar, tC, tCB, tCons, tNil, rI0, rI, tTest, tRet, tRetN, tNext, tAsg, gName, gNil, gCons, gTup, gUnl, tLst, tTup, tCall, tMeth, tMake, tUn, rU, tAndV, tOrV, tNotV, tAnd, tOr, tNot, tIf, tB, tFld, tDrop, tPar, tNever, tBM, rAppend, tSl, tPart, tNoPart, tM1, tyLst, List.getElem?_cons_zero, List.getElem?_cons_succ, Option.some.injEq, exists_eq_left', exists_eq_left, V.int.injEq, V.bl.injEq, V.str.injEq, V.ref.injEq, List.set_cons_zero, List.set_cons_succ, exists_and_left, exists_and_right, and_assoc, List.cons.injEq, and_true, true_and, List.cons_append, List.nil_append, List.append_nil, List.length_cons, List.length_nil, exists_eq', exists_eq, exists_const, exists_eq_right, exists_eq_right', cxK, Cx.nox, Cx.wish]
    refine ⟨_, _, _, hp, T.cl_Purse, T.na_Purse__held, _, held_yes, d, rfl, kvs, .inl hd, fun q hq => ?_⟩
    refine k q _ (Ext.upd hq) hq ?_
    have e := congrArg (List.map kV) (ent_keys hP)
    rw [List.map_map, List.map_map] at e
    rw [upd_same]
    show some (HO.lst (kvs.map (kV ∘ fun x => x.1))) = _
    rw [e]
    rfl

/-! ### _law_add -/
/-- a dict of names and tuples -/
def BagG (H : Hp) (d : Addr) (es : List (Str × Rat)) : Prop := ∃ kvs : List (Key × V), H d = some (.dK kvs) ∧ Paired (Ent (TupR H)) kvs es
theorem BagG.ext {H H' : Hp} {d : Addr} {es : List (Str × Rat)} (h : BagG H d es) (e : Ext H H') : BagG H' d es := by
  obtain ⟨kvs, h1, h2⟩ := h
  exact ⟨kvs, e _ _ h1, ent_mono h2 fun _ _ z => z.ext e⟩
theorem BagG.off {H H' : Hp} {d c : Addr} {es : List (Str × Rat)} {ks : List (Key × V)} (h : BagG H d es) (hd : d ≠ c) (hc : H c = some (.dK ks)) (e : Off c H H') : BagG H' d es := by
  obtain ⟨kvs, h1, h2⟩ := h
  exact ⟨kvs, e _ _ h1 hd, ent_mono h2 fun _ _ z => z.off hc e⟩
def spAddG : Sp := fun vs H Q _ => ∃ (d : Addr) (n : Str) (t l : Int) (es : List (Str × Rat)), vs = [.ref d, .str n, .int t, .int l] ∧ BagG H d es ∧ es.length ≤ 100 ∧ (es.map (·.1)).Nodup ∧ l ≠ 0 ∧ t.natAbs < 2 ^ 1000 ∧ l.natAbs < 2 ^ 1000 ∧ (∀ e ∈ es, Sz e.2 1000) ∧
  ∀ H', Off d H H' → BagG H' d (addR es n (Rat.divInt t l)) → Q .non H'
theorem ok_l_add (T : Tx a K mg w) : FnOk P w K mg base CX0 3 a.f_l_add a.d_l_add ps_l_add spAddG := by
  refine T.F_l_add.ok sc_l_add (fun vs H Q E h => ?_) (fun cdv A outer s H vs Q E hr h => ?_)
  · obtain ⟨d, n, t, l, es, rfl, _⟩ := h
    rfl
  · obtain ⟨d, n, t, l, es, rfl, ⟨kvs, hd, hP⟩, hln, nd, hl, bt, bl, hsz, q⟩ := h
    have hu := hu_of hr
    have G_l_plus := ok_l_plus (P := P) (w := w) (base := base) T
    have B_l_plus := bnd_l_plus T
    have hr_l_plus : Room 2 _ := hr.mono (by decide)
    refine ⟨_, (pss_cons (ps_set (i := 4) sc_l_add.nd rfl (by first | exact Or.inl rfl | exact Or.inr rfl) (pe_ifExp (pt_cmp (pc_din hu (pv 1) (pv 0))) (pe_dget hu (pv 0) (pv 1) (fun _ _ => rfl)) (pe_tup (pa_cons pe_int (pa_cons pe_int pa_nil)))))
      (pss_one (ps_dput hu (pv 0) (pv 1) (pe_call G_l_plus hr_l_plus (by rfl) T.mg_l_plus T.F_l_plus.kp B_l_plus .nil pass0 (pa_cons (pv 4) (pa_cons (pe_tup (pa_cons (pv 2) (pa_cons (pv 3) pa_nil))) pa_nil))) rfl))), ?_⟩
    show tSeq _ _ _ [some (V.ref d), some (V.str n), some (V.int t), some (V.int l), none] H
    have hkl : kvs.length = es.length := Paired.length hP
    have hz16 : sizeLine = 16777216 := rfl
    refine seq_i fun N hN => ?_
    have fin : ∀ (H0 : Hp) (t0 : Addr) (t1 l1 : Int), Ext H H0 → H0 t0 = some (.tup [.int t1, .int l1]) → l1 ≠ 0 → t1.natAbs < 2 ^ 1000 → l1.natAbs < 2 ^ 1000 →
        (∀ r H', Ext H0 H' → TupR H' r (Rat.divInt t1 l1 + Rat.divInt t l) → Paired (Ent (TupR H')) (putK kvs (Sum.inr n) (V.ref r)) (addR es n (Rat.divInt t l))) →
        N [some (V.ref d), some (V.str n), some (V.int t), some (V.int l), some (V.ref t0)] H0 := fun H0 t0 t1 l1 e0 f0 hl1 bt1 bl1 hput => by
      refine hN _ _ ?_
      simp only [sDPut, tSeq, tIfS, tOp, tVar, tC, tCB, tCons, tNil, rI0, rI, tTest, tRet, tRetN, tNext, tAsg, gName, gNil, gCons, gTup, gUnl, tLst, tTup, tCall, tMeth, tMake, tUn, rU, tAndV, tOrV, tNotV, tAnd, tOr, tNot, tIf, tB, tFld, tDrop, tPar, tNever, tBM, rAppend, tSl, tPart, tNoPart, tM1, tyLst, List.getElem?_cons_zero, List.getElem?_cons_succ, Option.some.injEq, exists_eq_left', exists_eq_left, V.int.injEq, V.bl.injEq, V.str.injEq, V.ref.injEq, List.set_cons_zero, List.set_cons_succ, exists_and_left, exists_and_right, and_assoc, List.cons.injEq, and_true, true_and, List.cons_append, List.nil_append, List.append_nil, List.length_cons, List.length_nil, exists_eq', exists_eq, exists_const, exists_eq_right, exists_eq_right', cxK, Cx.nox, Cx.wish]
      refine ⟨by decide, fun q1 hq1 => ?_⟩
      generalize E1 : upd H0 q1 _ = H1
      obtain ⟨e1, f1⟩ := alloc hq1 E1
      refine ⟨t0, q1, t1, l1, t, l, rfl, e1 _ _ f0, f1, hl1, hl, bt1, bl1, bt, bl, fun r H2 e2 _ hr => ?_⟩
      have hd2 := e2 _ _ (e1 _ _ (e0 _ _ hd))
      have o2 : Off d H2 (upd H2 d (.dK (putK kvs (Sum.inr n) (V.ref r)))) := Off.upd
      refine ⟨_, DPut.k (k := Sum.inr n) hd2 (by omega), ?_⟩
      exact q _ (Ext.off (e0.trans (e1.trans e2)) o2) ⟨_, upd_same, ent_mono (hput r H2 (e1.trans e2) hr) fun _ _ z => z.off hd2 o2⟩
    simp only [tDIn, tDGet, tSeq, tIfS, tOp, tVar, tC, tCB, tCons, tNil, rI0, rI, tTest, tRet, tRetN, tNext, tAsg, gName, gNil, gCons, gTup, gUnl, tLst, tTup, tCall, tMeth, tMake, tUn, rU, tAndV, tOrV, tNotV, tAnd, tOr, tNot, tIf, tB, tFld, tDrop, tPar, tNever, tBM, rAppend, tSl, tPart, tNoPart, tM1, tyLst, List.getElem?_cons_zero, List.getElem?_cons_succ, Option.some.injEq, exists_eq_left', exists_eq_left, V.int.injEq, V.bl.injEq, V.str.injEq, V.ref.injEq, List.set_cons_zero, List.set_cons_succ, exists_and_left, exists_and_right, and_assoc, List.cons.injEq, and_true, true_and, List.cons_append, List.nil_append, List.append_nil, List.length_cons, List.length_nil, exists_eq', exists_eq, exists_const, exists_eq_right, exists_eq_right', cxK, Cx.nox, Cx.wish]
    refine ⟨_, DGet.k (k := Sum.inr n) hd, ?_⟩
    by_cases hn : n ∈ es.map (·.1)
    · obtain ⟨e, he, rfl⟩ := List.mem_map.mp hn
      obtain ⟨t0, hv, ht0⟩ := ent_get hP nd he
      rw [hv]
      refine iteT ⟨_, hv ▸ DGet.k (k := Sum.inr e.1) hd, ?_⟩
      have sz := hsz e he
      refine fin H t0 e.2.num e.2.den (Ext.refl' _) ht0 (den_ne _) sz.n sz.d fun r H' e1 hr => ?_
      rw [Rat.num_divInt_den] at hr
      exact ent_put_old (ent_mono hP fun _ _ z => z.ext e1) nd he hr
    · rw [val_none (ent_miss hP hn)]
      refine iteF ⟨by decide, fun q0 hq0 => ?_⟩
      generalize E0 : upd H q0 _ = H0
      obtain ⟨e0, f0⟩ := alloc hq0 E0
      refine fin H0 q0 0 1 e0 f0 (by decide) (Nat.two_pow_pos _) (Nat.lt_of_lt_of_le (show (1 : Int).natAbs < 2 ^ 1 by decide) (Nat.pow_le_pow_right (by decide) (by decide))) fun r H' e1 hr => ?_
      rw [show Rat.divInt 0 1 = 0 by decide +kernel, Rat.zero_add] at hr
      exact ent_put_new (ent_mono hP fun _ _ z => z.ext (e0.trans e1)) hn hr

/-! ### _law_whole, _law_same -/
def spWhole : Sp := fun vs H Q _ => ∃ i : Int, vs = [.int i] ∧ Q (.bl true) H
theorem ok_l_whole (T : Tx a K mg w) : FnOk P w K mg base CX0 1 a.f_l_whole a.d_l_whole ps_l_whole spWhole := by
  refine T.F_l_whole.ok sc_l_whole (fun vs H Q E h => ?_) (fun cdv A outer s H vs Q E hr h => ?_)
  · obtain ⟨i, rfl, _⟩ := h
    rfl
  · obtain ⟨i, rfl, q⟩ := h
    refine ⟨_, (pss_one (ps_ret (pe_and (pe_callB call_isi (by rfl) T.no_isinstance (by decide +kernel) (pa_cons (pv 0) (pa_cons (pe_bltn (v := V.ty "int") (by rfl) T.no_int (by decide +kernel) rfl) pa_nil))) (pe_one (pe_not (pe_callB call_isi (by rfl) T.no_isinstance (by decide +kernel) (pa_cons (pv 0) (pa_cons (pe_bltn (v := V.ty "bool") (by rfl) T.no_bool (by decide +kernel) rfl) pa_nil)))))))), ?_⟩
    show tRet _ _ [some (V.int i)] H
    simp only [rIsi, tSeq, tIfS, tOp, tVar, tC, tCB, tCons, tNil, rI0, rI, tTest, tRet, tRetN, tNext, tAsg, gName, gNil, gCons, gTup, gUnl, tLst, tTup, tCall, tMeth, tMake, tUn, rU, tAndV, tOrV, tNotV, tAnd, tOr, tNot, tIf, tB, tFld, tDrop, tPar, tNever, tBM, rAppend, tSl, tPart, tNoPart, tM1, tyLst, List.getElem?_cons_zero, List.getElem?_cons_succ, Option.some.injEq, exists_eq_left', exists_eq_left, V.int.injEq, V.bl.injEq, V.str.injEq, V.ref.injEq, List.set_cons_zero, List.set_cons_succ, exists_and_left, exists_and_right, and_assoc, List.cons.injEq, and_true, true_and, List.cons_append, List.nil_append, List.append_nil, List.length_cons, List.length_nil, exists_eq', exists_eq, exists_const, exists_eq_right, exists_eq_right', cxK, Cx.nox, Cx.wish]
    refine ⟨_, _, .ty "int", .base (.int i), true, L2.kit_ty (by decide +kernel), iteT ?_⟩
    exact ⟨_, _, .ty "bool", .base (.int i), false, L2.kit_ty (by decide +kernel), q⟩

end
end My

set_option Elab.async false
set_option maxRecDepth 100000
set_option maxHeartbeats 4000000
set_option linter.all false
namespace My
open PySem L2 Own
section
variable {P : Program} {w : World} {K : PySem.W.Frag} {mg : Str → Option Value} {base : Heap} {a : Adr}
/-! ### _law_told, _law_due -/
def spTold (C CP : Addr) : Sp := fun vs H Q _ => ∃ (p d : Addr) (hs : List (Str × Rat)), vs = [.ref p] ∧ PurD C CP H p d hs ∧ (hs.map (·.1)).Nodup ∧ hs.length ≤ 100 ∧ ∀ q H', Ext H H' → H q = none → Rows3 H' q hs → Q (.ref q) H'
theorem ok_l_told (T : Tx a K mg w) : FnOk P w K mg base CX0 4 a.f_l_told a.d_l_told ps_l_told (spTold a.C_Purse a.C_Part) := by
  refine T.F_l_told.ok sc_l_told (fun vs H Q E h => ?_) (fun cdv A outer s H vs Q E hr h => ?_)
  · obtain ⟨p, d, hs, rfl, _⟩ := h
    rfl
  · obtain ⟨p, d, hs, rfl, hPD, nd, hln, k⟩ := h
    have G_Purse_coins := ok_Purse_coins (P := P) (w := w) (base := base) T
    have B_Purse_coins := bnd_Purse_coins T
    have hr_Purse_coins : Room 1 _ := hr.mono (by decide)
    have G_Purse_at := ok_Purse_at (P := P) (w := w) (base := base) T
    have B_Purse_at := bnd_Purse_at T
    have hr_Purse_at : Room 3 _ := hr.mono (by decide)
    have G_l_whole := ok_l_whole (P := P) (w := w) (base := base) T
    have B_l_whole := bnd_l_whole T
    have hr_l_whole : Room 1 _ := hr.mono (by decide)
    refine ⟨_, (pss_cons (ps_if (PW.pt (pw_or (pt_not (pt_val (pe_callB call_isi (by rfl) T.no_isinstance (by decide +kernel) (pa_cons (pv 0) (pa_cons (pe_glob (v := V.ref a.C_Purse) rfl T.mg_Purse rfl) pa_nil))))) (pw_or1 (pt_not (pt_val (pe_callB call_isi (by rfl) T.no_isinstance (by decide +kernel) (pa_cons (pe_meth0 (pv 0) T.cl_Purse T.m_Purse_coins G_Purse_coins hr_Purse_coins B_Purse_coins .nil pass0) (pa_cons (pe_bltn (v := V.ty "list") (by rfl) T.no_list (by decide +kernel) rfl) pa_nil)))))))) (pss_one (ps_ret pe_non)) pss_nil)
      (pss_cons (ps_set (i := 1) sc_l_told.nd rfl (by first | exact Or.inl rfl | exact Or.inr rfl) (pe_lst pa_nil))
      (pss_cons (ps_for PassesOwn.never rfl (pi_list (pe_meth0 (pv 0) T.cl_Purse T.m_Purse_coins G_Purse_coins hr_Purse_coins B_Purse_coins .nil pass0)) (pg_name (i := 2) sc_l_told.nd rfl (by first | exact Or.inl rfl | exact Or.inr rfl))
        (pss_cons (ps_set (i := 3) sc_l_told.nd rfl (by first | exact Or.inl rfl | exact Or.inr rfl) (pe_meth (pv 0) T.cl_Purse T.m_Purse_at G_Purse_at hr_Purse_at B_Purse_at .nil pass0 (pa_cons (pv 2) pa_nil)))
        (pss_cons (ps_if (PW.pt (pw_or (pt_not (pt_val (pe_callB call_isi (by rfl) T.no_isinstance (by decide +kernel) (pa_cons (pv 2) (pa_cons (pe_bltn (v := V.ty "str") (by rfl) T.no_str (by decide +kernel) rfl) pa_nil))))) (pw_or1 (pt_not (pt_val (pe_callB call_isi (by rfl) T.no_isinstance (by decide +kernel) (pa_cons (pv 3) (pa_cons (pe_glob (v := V.ref a.C_Part) rfl T.mg_Part rfl) pa_nil)))))))) (pss_one (ps_ret pe_non)) pss_nil)
        (pss_one (ps_expr (pe_bm PySem.F.plainAttrs_list PySem.F.slot_list_append PySem.F.type_list_append mt_append (pv 1) (pa_cons (pe_tup (pa_cons (pv 2) (pa_cons (pe_fld (pv 3) rfl) (pa_cons (pe_fld (pv 3) rfl) pa_nil)))) pa_nil)))))))
      (pss_one (ps_ret (pe_ifExp (pt_val (pe_callB (cr_all rfl) (by rfl) T.no_all (by decide +kernel) (pa_cons (pe_lc (own := [("_law_row", 4)]) rfl sc_l_told.nd (pi_list (pv 1)) (blkOk_by (own := [("_law_row", 4)]) (N := N_l_told) (sc := defScope s_l_told) (by decide +kernel)) (fun _ _ _ _ _ => (pg_name (i := 4) sc_l_told.nd rfl (Or.inl rfl))) (fun _ _ _ _ _ => pts_nil) (fun _ _ _ _ _ => (pe_and (pe_call G_l_whole hr_l_whole (by rfl) T.mg_l_whole T.F_l_whole.kp B_l_whole .nil pass0 (pa_cons (pe_ix (ixTK (K := K) rfl) (pv 4) pe_int (fun _ _ => rfl)) pa_nil)) (pe_one (pe_call G_l_whole hr_l_whole (by rfl) T.mg_l_whole T.F_l_whole.kp B_l_whole .nil pass0 (pa_cons (pe_ix (ixTK (K := K) rfl) (pv 4) pe_int (fun _ _ => rfl)) pa_nil)))))) pa_nil))) (pv 1) pe_non)))))), ?_⟩
    show tSeq _ _ _ [some (V.ref p), none, none, none, none] H
    have hz16 : sizeLine = 16777216 := rfl
    refine seq_i fun N hN => ?_
    simp only [tDNewK, tDIn, tDNotIn, tDGet, sDPut, rIxL, rIxT, rEq, rNe, rIsi, sFld, rSlL, rIn, rEqD, tYes, tCallN, tSeq, tIfS, tOp, tVar, tC, tCB, tCons, tNil, rI0, rI, tTest, tRet, tRetN, tNext, tAsg, gName, gNil, gCons, gTup, gUnl, tLst, tTup, tCall, tMeth, tMake, tUn, rU, tAndV, tOrV, tNotV, tAnd, tOr, tNot, tIf, tB, tFld, tDrop, tPar, tNever, tBM, rAppend, tSl, tPart, tNoPart, tM1, tyLst, List.getElem?_cons_zero, List.getElem?_cons_succ, Option.some.injEq, exists_eq_left', exists_eq_left, V.int.injEq, V.bl.injEq, V.str.injEq, V.ref.injEq, List.set_cons_zero, List.set_cons_succ, exists_and_left, exists_and_right, and_assoc, List.cons.injEq, and_true, true_and, List.cons_append, List.nil_append, List.append_nil, List.length_cons, List.length_nil, exists_eq', exists_eq, exists_const, exists_eq_right, exists_eq_right', cxK, Cx.nox, Cx.wish]
    obtain ⟨dx, kvs, hp, hd, hP⟩ := hPD
    refine ⟨_, _, .own a.C_Purse, ty_Purse T hp, true, T.kit_Purse_Purse, iteF ?_⟩
    refine ⟨_, _, hp, held_no (by decide +kernel), p, d, hs, rfl, ⟨dx, kvs, hp, hd, hP⟩, fun q0 H1 e1 _ f1 => ?_⟩
    refine ⟨_, _, .ty "list", .base (.lst f1), true, L2.kit_ty (by decide +kernel), iteF (hN _ _ ?_)⟩
    clear hN N
    have hPD : PurD a.C_Purse a.C_Part H1 p d hs := PurD.ext ⟨dx, kvs, hp, hd, hP⟩ e1
    clear hp hd hP f1
    refine seq_i fun N hN => ?_
    simp only [tDNewK, tDIn, tDNotIn, tDGet, sDPut, rIxL, rIxT, rEq, rNe, rIsi, sFld, rSlL, rIn, rEqD, tYes, tCallN, tSeq, tIfS, tOp, tVar, tC, tCB, tCons, tNil, rI0, rI, tTest, tRet, tRetN, tNext, tAsg, gName, gNil, gCons, gTup, gUnl, tLst, tTup, tCall, tMeth, tMake, tUn, rU, tAndV, tOrV, tNotV, tAnd, tOr, tNot, tIf, tB, tFld, tDrop, tPar, tNever, tBM, rAppend, tSl, tPart, tNoPart, tM1, tyLst, List.getElem?_cons_zero, List.getElem?_cons_succ, Option.some.injEq, exists_eq_left', exists_eq_left, V.int.injEq, V.bl.injEq, V.str.injEq, V.ref.injEq, List.set_cons_zero, List.set_cons_succ, exists_and_left, exists_and_right, and_assoc, List.cons.injEq, and_true, true_and, List.cons_append, List.nil_append, List.append_nil, List.length_cons, List.length_nil, exists_eq', exists_eq, exists_const, exists_eq_right, exists_eq_right', cxK, Cx.nox, Cx.wish]
    refine ⟨by decide, fun pf hpf => ?_⟩
    generalize hH2 : upd H1 pf _ = H2
    obtain ⟨e2, f2⟩ := alloc hpf hH2
    refine hN _ _ ?_
    clear hN N hH2
    have hPD := hPD.ext e2
    have e12 := e1.trans e2
    refine seq_i fun N hN => ?_
    obtain ⟨dx, kvs, hp, hd, hP⟩ := hPD
    refine ⟨_, rfl, p, dx, _, rfl, hp, held_no (by decide +kernel), p, d, hs, rfl, ⟨dx, kvs, hp, hd, hP⟩, fun q1 H3 e3 hq1 f3 => ⟨q1, rfl, ⟨_, ofL f3⟩, ?_⟩⟩
    have hPD : PurD a.C_Purse a.C_Part H3 p d hs := PurD.ext ⟨dx, kvs, hp, hd, hP⟩ e3
    clear hp hd hP
    have hqf : q1 ≠ pf := ne_of_new hq1 f2
    refine for_it (walk_list (K := K) (a := q1) (xs := (hs.map (·.1)).map V.str)) (fun i σ H' => ∃ v2 v3, σ = [some (V.ref p), some (V.ref pf), v2, v3, none] ∧ Ext H1 H' ∧ PurD a.C_Purse a.C_Part H' p d hs ∧ H' q1 = some (.lst ((hs.map (·.1)).map V.str)) ∧ ∃ ts : List Addr, H' pf = some (.lst (ts.map V.ref)) ∧ Paired (Row3 H') ts (hs.take i))
      ⟨_, _, rfl, e2.trans e3, hPD, f3, [], e3 _ _ f2, .nil⟩ (fun i σ H' _ h => by
        obtain ⟨_, _, _, _, _, h, _⟩ := h
        exact ofL h) ?_ ?_
    · rintro i x σ H4 H5 hi ⟨v2, v3, rfl, e4, hPD, f4, ts, g4, hT⟩ ⟨rfl, hx⟩
      rw [List.getElem?_map, List.getElem?_map] at hx
      obtain ⟨e, he, rfl⟩ : ∃ e, hs[i]? = some e ∧ x = V.str e.1 := by
        cases z : hs[i]? with
        | none => rw [z] at hx; cases hx
        | some e => rw [z] at hx; exact ⟨e, rfl, (Option.some.inj hx).symm⟩
      have htl : ts.length = (hs.take i).length := Paired.length hT
      rw [List.length_take] at htl
      show tSeq _ _ _ [some (V.ref p), some (V.ref pf), some (V.str e.1), v3, none] H5
      refine seq_i fun N2 hN2 => ?_
      simp only [tDNewK, tDIn, tDNotIn, tDGet, sDPut, rIxL, rIxT, rEq, rNe, rIsi, sFld, rSlL, rIn, rEqD, tYes, tCallN, tSeq, tIfS, tOp, tVar, tC, tCB, tCons, tNil, rI0, rI, tTest, tRet, tRetN, tNext, tAsg, gName, gNil, gCons, gTup, gUnl, tLst, tTup, tCall, tMeth, tMake, tUn, rU, tAndV, tOrV, tNotV, tAnd, tOr, tNot, tIf, tB, tFld, tDrop, tPar, tNever, tBM, rAppend, tSl, tPart, tNoPart, tM1, tyLst, List.getElem?_cons_zero, List.getElem?_cons_succ, Option.some.injEq, exists_eq_left', exists_eq_left, V.int.injEq, V.bl.injEq, V.str.injEq, V.ref.injEq, List.set_cons_zero, List.set_cons_succ, exists_and_left, exists_and_right, and_assoc, List.cons.injEq, and_true, true_and, List.cons_append, List.nil_append, List.append_nil, List.length_cons, List.length_nil, exists_eq', exists_eq, exists_const, exists_eq_right, exists_eq_right', cxK, Cx.nox, Cx.wish]
      obtain ⟨dx, kvs, hp, hd, hP⟩ := hPD
      refine ⟨_, _, hp, held_no (by decide +kernel), p, d, e.1, hs, rfl, ⟨dx, kvs, hp, hd, hP⟩, nd, fun q2 H6 e6 hq2 => hN2 _ _ ?_⟩
      clear hN2 N2
      rw [val_mem (n := e.1) nd (List.mem_of_getElem? he)] at hq2
      have hPD : PurD a.C_Purse a.C_Part H6 p d hs := PurD.ext ⟨dx, kvs, hp, hd, hP⟩ e6
      have f6 := e6 _ _ f4
      have g6 := e6 _ _ g4
      have hT6 := row3_ext hT e6
      obtain ⟨dq, hq2⟩ := hq2
      refine seq_i fun N2 hN2 => ?_
      simp only [tDNewK, tDIn, tDNotIn, tDGet, sDPut, rIxL, rIxT, rEq, rNe, rIsi, sFld, rSlL, rIn, rEqD, tYes, tCallN, tSeq, tIfS, tOp, tVar, tC, tCB, tCons, tNil, rI0, rI, tTest, tRet, tRetN, tNext, tAsg, gName, gNil, gCons, gTup, gUnl, tLst, tTup, tCall, tMeth, tMake, tUn, rU, tAndV, tOrV, tNotV, tAnd, tOr, tNot, tIf, tB, tFld, tDrop, tPar, tNever, tBM, rAppend, tSl, tPart, tNoPart, tM1, tyLst, List.getElem?_cons_zero, List.getElem?_cons_succ, Option.some.injEq, exists_eq_left', exists_eq_left, V.int.injEq, V.bl.injEq, V.str.injEq, V.ref.injEq, List.set_cons_zero, List.set_cons_succ, exists_and_left, exists_and_right, and_assoc, List.cons.injEq, and_true, true_and, List.cons_append, List.nil_append, List.append_nil, List.length_cons, List.length_nil, exists_eq', exists_eq, exists_const, exists_eq_right, exists_eq_right', cxK, Cx.nox, Cx.wish]
      refine ⟨_, _, .ty "str", .base (.str _), true, L2.kit_ty (by decide +kernel), iteF ?_⟩
      refine ⟨_, _, .own a.C_Part, ty_Part T hq2, true, T.kit_Part_Part, iteF (hN2 _ _ ?_)⟩
      clear hN2 N2
      simp only [tDNewK, tDIn, tDNotIn, tDGet, sDPut, rIxL, rIxT, rEq, rNe, rIsi, sFld, rSlL, rIn, rEqD, tYes, tCallN, tSeq, tIfS, tOp, tVar, tC, tCB, tCons, tNil, rI0, rI, tTest, tRet, tRetN, tNext, tAsg, gName, gNil, gCons, gTup, gUnl, tLst, tTup, tCall, tMeth, tMake, tUn, rU, tAndV, tOrV, tNotV, tAnd, tOr, tNot, tIf, tB, tFld, tDrop, tPar, tNever, tBM, rAppend, tSl, tPart, tNoPart, tM1, tyLst, List.getElem?_cons_zero, List.getElem?_cons_succ, Option.some.injEq, exists_eq_left', exists_eq_left, V.int.injEq, V.bl.injEq, V.str.injEq, V.ref.injEq, List.set_cons_zero, List.set_cons_succ, exists_and_left, exists_and_right, and_assoc, List.cons.injEq, and_true, true_and, List.cons_append, List.nil_append, List.append_nil, List.length_cons, List.length_nil, exists_eq', exists_eq, exists_const, exists_eq_right, exists_eq_right', cxK, Cx.nox, Cx.wish]
      refine ⟨tyLst g6, _, _, _, hq2, T.cl_Part, T.na_Part_top, _, fsP_top _ _, _, _, _, hq2, T.cl_Part, T.na_Part_low, _, fsP_low _ _, by decide, fun pt hpt => ?_⟩
      generalize hE : upd H6 pt _ = H7
      obtain ⟨e7, f7⟩ := alloc hpt hE
      have g7 := e7 _ _ g6
      have o7 : Off pf H7 (upd H7 pf (.lst (ts.map V.ref ++ [V.ref pt]))) := Off.upd
      refine ⟨_, g7, by rw [List.length_map]; omega, upd_ext (e4.trans (e6.trans e7)) hpf, (hPD.ext e7).offL g7 o7, o7 _ _ (e7 _ _ f6) hqf, ts ++ [pt], by rw [upd_same, List.map_append]; rfl, ?_⟩
      rw [take_snoc he]
      exact row3_offL (Paired.snoc (row3_ext hT6 e7) f7) g7 o7
    · rintro σ H4 ⟨v2, v3, rfl, e4, hPD, f4, ts, g4, hT⟩
      refine hN _ _ ?_
      clear hN N
      rw [List.take_of_length_le (by rw [List.length_map, List.length_map]; omega)] at hT
      have htl : ts.length = hs.length := Paired.length hT
      simp only [tDNewK, tDIn, tDNotIn, tDGet, sDPut, rIxL, rIxT, rEq, rNe, rIsi, sFld, rSlL, rIn, rEqD, tYes, tCallN, tSeq, tIfS, tOp, tVar, tC, tCB, tCons, tNil, rI0, rI, tTest, tRet, tRetN, tNext, tAsg, gName, gNil, gCons, gTup, gUnl, tLst, tTup, tCall, tMeth, tMake, tUn, rU, tAndV, tOrV, tNotV, tAnd, tOr, tNot, tIf, tB, tFld, tDrop, tPar, tNever, tBM, rAppend, tSl, tPart, tNoPart, tM1, tyLst, List.getElem?_cons_zero, List.getElem?_cons_succ, Option.some.injEq, exists_eq_left', exists_eq_left, V.int.injEq, V.bl.injEq, V.str.injEq, V.ref.injEq, List.set_cons_zero, List.set_cons_succ, exists_and_left, exists_and_right, and_assoc, List.cons.injEq, and_true, true_and, List.cons_append, List.nil_append, List.append_nil, List.length_cons, List.length_nil, exists_eq', exists_eq, exists_const, exists_eq_right, exists_eq_right', cxK, Cx.nox, Cx.wish]
      refine tLc_i (J := Itl K pf) (fun R r => ⟨_, rfl, pf, rfl, ⟨_, ofL g4⟩, r⟩) (walk_list (K := K) (a := pf) (xs := ts.map V.ref)) fun D hD => ?_
      refine ⟨fun i H' => Ext H4 H' ∧ ∃ bs : List Bool, H' D = some (.lst (bs.map V.bl)) ∧ bs.all id = true ∧ bs.length = i, ⟨Ext.upd hD, [], upd_same, rfl, rfl⟩, fun i H' _ h => ofL (h.1 _ _ g4), ?_, ?_⟩
      · rintro i x H5 H6 hi ⟨e5, bs, fD, hb, hbl⟩ ⟨rfl, hx⟩
        rw [List.length_map] at hi
        obtain ⟨t, hti, rfl⟩ : ∃ t, ts[i]? = some t ∧ x = V.ref t := by
          rw [List.getElem?_map] at hx
          cases e : ts[i]? with
          | none => rw [e] at hx; cases hx
          | some t => rw [e] at hx; exact ⟨t, rfl, (Option.some.inj hx).symm⟩
        obtain ⟨e, he, ht⟩ := LiI.paired_get hT hti
        have ht6 : H6 t = some (.tup [.str e.1, .int e.2.num, .int e.2.den]) := e5 _ _ ht
        refine ⟨rfl, ?_⟩
        have ew : (wipe [some (V.ref p), some (V.ref pf), v2, v3, none] (List.map (fun x => x.snd) [((Str.ofString "_law_row" : Str), 4)])) = [some (V.ref p), some (V.ref pf), v2, v3, none] := rfl
        have a1 : atI [V.str e.1, .int e.2.num, .int e.2.den] 1 = some (.int e.2.num) := Own.atI_nat (j := 1) rfl
        have a2 : atI [V.str e.1, .int e.2.num, .int e.2.den] 2 = some (.int e.2.den) := Own.atI_nat (j := 2) rfl
        simp only [ew, tDNewK, tDIn, tDNotIn, tDGet, sDPut, rIxL, rIxT, rEq, rNe, rIsi, sFld, rSlL, rIn, rEqD, tYes, tCallN, tSeq, tIfS, tOp, tVar, tC, tCB, tCons, tNil, rI0, rI, tTest, tRet, tRetN, tNext, tAsg, gName, gNil, gCons, gTup, gUnl, tLst, tTup, tCall, tMeth, tMake, tUn, rU, tAndV, tOrV, tNotV, tAnd, tOr, tNot, tIf, tB, tFld, tDrop, tPar, tNever, tBM, rAppend, tSl, tPart, tNoPart, tM1, tyLst, List.getElem?_cons_zero, List.getElem?_cons_succ, Option.some.injEq, exists_eq_left', exists_eq_left, V.int.injEq, V.bl.injEq, V.str.injEq, V.ref.injEq, List.set_cons_zero, List.set_cons_succ, exists_and_left, exists_and_right, and_assoc, List.cons.injEq, and_true, true_and, List.cons_append, List.nil_append, List.append_nil, List.length_cons, List.length_nil, exists_eq', exists_eq, exists_const, exists_eq_right, exists_eq_right', cxK, Cx.nox, Cx.wish]
        rw [if_pos trivial]
        refine ⟨_, ofT ht6, _, a1, _, rfl, true, rfl, iteT ⟨_, ofT ht6, _, a2, _, rfl, ?_⟩⟩
        refine ⟨_, fD, by rw [List.length_map]; omega, upd_ext e5 hD, bs ++ [true], by rw [upd_same, List.map_append]; rfl, by rw [List.all_append, hb]; rfl, by rw [List.length_append, hbl]; rfl⟩
      · rintro H5 ⟨e5, bs, fD, hb, _⟩
        refine ⟨D, bs, rfl, ofL fD, true, by rw [hb], iteT ?_⟩
        exact k _ _ (e1.trans (e4.trans e5)) (none_back e1 hpf) ⟨ts, e5 _ _ g4, row3_ext hT e5⟩

def spDue : Sp := fun vs H Q _ => ∃ (d : Addr) (es : List (Str × Rat)), vs = [.ref d] ∧ BagG H d es ∧ (es.map (·.1)).Nodup ∧ es.length < 64 ∧ ∀ q H' cs, Ext H H' → H q = none → Canon cs → (∀ n, val cs n = val es n) → Rows3 H' q cs → Q (.ref q) H'
theorem ok_l_due (T : Tx a K mg w) : FnOk P w K mg base CX0 1 a.f_l_due a.d_l_due ps_l_due spDue := by
  refine T.F_l_due.ok sc_l_due (fun vs H Q E h => ?_) (fun cdv A outer s H vs Q E hr h => ?_)
  · obtain ⟨d, es, rfl, _⟩ := h
    rfl
  · obtain ⟨d, es, rfl, ⟨kvs, hd, hP⟩, nd, hln, k⟩ := h
    have hu := hu_of hr
    refine ⟨_, (pss_one (ps_ret (pe_lc (own := [("_law_coin", 1)]) rfl sc_l_due.nd (pi_list (pe_callB (cr_sortN rfl) (by rfl) T.no_sorted (by decide +kernel) (pa_cons (pv 0) pa_nil))) (blkOk_by (own := [("_law_coin", 1)]) (N := N_l_due) (sc := defScope s_l_due) (by decide +kernel)) (fun _ _ _ _ _ => (pg_name (i := 1) sc_l_due.nd rfl (Or.inl rfl))) (fun _ _ _ _ _ => (pts_one (pt_cmpR op_ne (pe_ix (ixTK (K := K) rfl) (pe_dget hu (pv 0) (pv 1) (fun _ _ => rfl)) pe_int (fun _ _ => rfl)) pe_int (nomark _)))) (fun _ _ _ _ _ => (pe_op (catTK (K := K) rfl) (pe_tup (pa_cons (pv 1) pa_nil)) (pe_dget hu (pv 0) (pv 1) (fun _ _ => rfl))))))), ?_⟩
    show tRet _ _ [some (V.ref d), none] H
    have hz16 : sizeLine = 16777216 := rfl
    refine ⟨_, rfl, d, kvs, es.map (·.1), rfl, .inl hd, ent_keys hP, by rw [List.length_map]; exact hln, fun ys s0 hy hsrt hs0 => ⟨s0, rfl, ⟨_, ofL upd_same⟩, fun D hD => ?_⟩⟩
    generalize hE : upd H s0 _ = H1 at hD ⊢
    obtain ⟨e1, f1⟩ := alloc hs0 hE
    clear hE
    have ndy : ys.Nodup := hy.nodup_iff.mpr nd
    have hyl : ys.length = es.length := by rw [hy.length_eq, List.length_map]
    have hd1 := e1 _ _ hd
    have hP1 := ent_mono (R' := TupR H1) hP fun _ _ z => z.ext e1
    refine lc_it (walk_list (K := K) (a := s0) (xs := ys.map V.str)) (fun i H' => Ext H1 H' ∧ ∃ ts : List Addr, H' D = some (.lst (ts.map V.ref)) ∧ Paired (Row3 H') ts ((ys.take i).filterMap (pick es)) ∧ ts.length ≤ i) ⟨Ext.upd hD, [], upd_same, .nil, Nat.le_refl _⟩ (fun i H' _ h => ofL (h.1 _ _ f1)) ?_ ?_
    · rintro i x H2 H3 hi ⟨e2, ts, fD, hT, htl⟩ ⟨rfl, hx⟩
      rw [List.length_map] at hi
      obtain ⟨y, hyi, rfl⟩ : ∃ y, ys[i]? = some y ∧ x = V.str y := by
        rw [List.getElem?_map] at hx
        cases e : ys[i]? with
        | none => rw [e] at hx; cases hx
        | some y => rw [e] at hx; exact ⟨y, rfl, (Option.some.inj hx).symm⟩
      obtain ⟨e, he, rfl⟩ := List.mem_map.mp (hy.mem_iff.mp (List.mem_of_getElem? hyi))
      obtain ⟨t, hv, ht⟩ := ent_get hP1 nd he
      have ht3 : H3 t = some (.tup [.int e.2.num, .int e.2.den]) := ht.ext e2
      have hd3 := e2 _ _ hd1
      have hve := val_mem (n := e.1) nd he
      refine ⟨rfl, ?_⟩
      have ew : (wipe [some (V.ref d), none] (List.map (fun x => x.snd) [((Str.ofString "_law_coin" : Str), 1)])) = [some (V.ref d), none] := rfl
      simp only [ew, tDNewK, tDIn, tDNotIn, tDGet, sDPut, rIxL, rIxT, rEq, rNe, rIsi, sFld, rSlL, rIn, rEqD, tYes, tCallN, tSeq, tIfS, tOp, tVar, tC, tCB, tCons, tNil, rI0, rI, tTest, tRet, tRetN, tNext, tAsg, gName, gNil, gCons, gTup, gUnl, tLst, tTup, tCall, tMeth, tMake, tUn, rU, tAndV, tOrV, tNotV, tAnd, tOr, tNot, tIf, tB, tFld, tDrop, tPar, tNever, tBM, rAppend, tSl, tPart, tNoPart, tM1, tyLst, List.getElem?_cons_zero, List.getElem?_cons_succ, Option.some.injEq, exists_eq_left', exists_eq_left, V.int.injEq, V.bl.injEq, V.str.injEq, V.ref.injEq, List.set_cons_zero, List.set_cons_succ, exists_and_left, exists_and_right, and_assoc, List.cons.injEq, and_true, true_and, List.cons_append, List.nil_append, List.append_nil, List.length_cons, List.length_nil, exists_eq', exists_eq, exists_const, exists_eq_right, exists_eq_right', cxK, Cx.nox, Cx.wish]
      have g1 : DGet H3 d (.str e.1) (some (V.ref t)) := hv ▸ DGet.k (k := Sum.inr e.1) hd3
      refine ⟨_, g1, t, rfl, _, ofT ht3, _, atI_0, rfl, ite2 (fun hb => ?_) (fun hb => ?_)⟩
      · have hne : ¬ e.2 = 0 := fun z => by
          rw [z] at hb
          revert hb
          decide +kernel
        refine ⟨by decide, fun t1 ht1 => ?_⟩
        generalize hE : upd H3 t1 _ = H4
        obtain ⟨e4, f4⟩ := alloc ht1 hE
        refine ⟨_, .inl ⟨kvs, Sum.inr e.1, .inl (e4 _ _ hd3), rfl, hv.symm⟩, t1, t, _, _, rfl, rfl, ofT f4, ofT (e4 _ _ ht3), List.cons_ne_nil _ _, by show 1 + 2 ≤ sizeLine; decide, (fun z => by cases z), fun _ t2 ht2 => ?_⟩
        generalize hE2 : upd H4 t2 _ = H5
        obtain ⟨e5, f5⟩ := alloc ht2 hE2
        have e35 := e4.trans e5
        have fD5 := e35 _ _ fD
        have o5 : Off D H5 (upd H5 D (.lst (ts.map V.ref ++ [V.ref t2]))) := Off.upd
        refine ⟨_, fD5, by rw [List.length_map]; omega, upd_ext (e2.trans e35) hD, ts ++ [t2], by rw [upd_same, List.map_append]; rfl, ?_, by rw [List.length_append]; exact Nat.succ_le_succ htl⟩
        rw [take_snoc hyi, List.filterMap_append, List.filterMap_cons]
        have hpk : pick es e.1 = some e := by
          unfold pick
          rw [hve, if_neg hne]
        rw [hpk]
        exact row3_offL (Paired.snoc (row3_ext hT e35) f5) fD5 o5
      · have hz : e.2 = 0 := by
          have hn0 : e.2.num = 0 := by
            cases hd : decide (V.int e.2.num = V.int 0) with
            | true => exact V.int.inj (of_decide_eq_true hd)
            | false => exact absurd (by rw [hd]; rfl) hb
          rw [← Rat.num_divInt_den e.2, hn0, Rat.zero_divInt]
        refine ⟨e2, ts, fD, ?_, Nat.le_succ_of_le htl⟩
        rw [take_snoc hyi, List.filterMap_append, List.filterMap_cons]
        have hpk : pick es e.1 = none := by
          unfold pick
          rw [hve, if_pos hz]
        rw [hpk]
        show Paired _ _ (_ ++ [])
        rw [List.append_nil]
        exact hT
    · rintro H2 ⟨e2, ts, fD, hT, _⟩
      rw [List.take_of_length_le (by rw [List.length_map]; exact Nat.le_refl _)] at hT
      exact k _ _ _ (e1.trans e2) (none_back e1 hD) (pick_canon hsrt ndy) (pick_val ndy fun n hn => hy.mem_iff.mpr (Classical.byContradiction fun z => hn (val_miss z))) ⟨ts, fD, hT⟩

/-! ### Purse: held against another one -/
theorem partR_inj {C : Addr} {H : Hp} {p : Addr} {x y : Rat} (h1 : PartR C H p x) (h2 : PartR C H p y) : x = y := by
  obtain ⟨d1, h1⟩ := h1
  obtain ⟨d2, h2⟩ := h2
  have e := (HO.ins.inj (Option.some.inj (h1.symm.trans h2))).2.2
  have en := congrArg (fun l => l.lookup ("top" : Str)) e
  have ed := congrArg (fun l => l.lookup ("low" : Str)) e
  simp only [fsP_top, fsP_low] at en ed
  have en := V.int.inj (Option.some.inj en)
  have ed := V.int.inj (Option.some.inj ed)
  exact Rat.ext en (by omega)
theorem rat_dec {x y : Rat} : (decide (x.num = y.num) && decide ((x.den : Int) = y.den)) = decide (x = y) := by
  rw [← Bool.decide_and]
  refine decide_eq_decide.mpr ⟨fun h => Rat.ext h.1 (by omega), fun h => by rw [h]; exact ⟨rfl, rfl⟩⟩
theorem part_held (T : Tx a K mg w) {H : Hp} {p q : Addr} {x y : Rat} (hp : PartR a.C_Part H p x) (hq : PartR a.C_Part H q y) : ValEq K a.C_Part (spPartEq K a.C_Part) E0 H (.ref p) (.ref q) (decide (x = y)) := by
  refine ⟨p, q, rfl, rfl, ?_⟩
  by_cases e : p = q
  · refine .inl ⟨e, ?_⟩
    subst e
    exact decide_eq_true (partR_inj hp hq)
  · obtain ⟨d1, h1⟩ := hp
    obtain ⟨d2, h2⟩ := hq
    refine .inr ⟨e, d1, _, _, h1, ty_Part T h2, T.nf_Part_Part, p, _, _, .ref q, rfl, ⟨d1, h1⟩, .inl ⟨q, _, _, rfl, ⟨d2, h2⟩, ?_, rfl⟩⟩
    rw [rat_dec]
theorem purse_held (T : Tx a K mg w) {H : Hp} {kb : List (Key × V)} {gs : List (Str × Rat)} (hb : Paired (Ent (PartR a.C_Part H)) kb gs) (nd : (gs.map (·.1)).Nodup) : ∀ {ka : List (Key × V)} {hs : List (Str × Rat)}, Paired (Ent (PartR a.C_Part H)) ka hs → (∀ x ∈ hs, x.2 ≠ 0) →
    Held K a.C_Part (spPartEq K a.C_Part) E0 H kb ka (hs.all fun x => decide (val gs x.1 = x.2))
  | _, _, .nil, _ => .nil
  | _, x :: hs, .cons ⟨p, hkv, hp⟩ hr, hnz => by
    have ih := purse_held T hb nd hr fun y hy => hnz y (List.mem_cons_of_mem _ hy)
    have hx0 := hnz x List.mem_cons_self
    rw [hkv, List.all_cons]
    by_cases hn : x.1 ∈ gs.map (·.1)
    · obtain ⟨y, hy, hyx⟩ := List.mem_map.mp hn
      obtain ⟨q, hv, hq⟩ := ent_get hb nd hy
      rw [hyx] at hv
      have hvy : val gs x.1 = y.2 := by rw [← hyx]; exact val_mem (n := y.1) nd hy
      have hpq := part_held T hp hq
      rw [hvy]
      by_cases e : x.2 = y.2
      · rw [decide_eq_true e] at hpq
        rw [decide_eq_true e.symm, Bool.true_and]
        exact .yes hv hpq ih
      · rw [decide_eq_false e] at hpq
        rw [decide_eq_false (fun z => e z.symm), Bool.false_and]
        exact .no hv hpq
    · rw [val_miss hn, decide_eq_false (fun z => hx0 z.symm), Bool.false_and]
      exact .miss (val_none (ent_miss hb hn))
theorem lock_two {H : Hp} {d e : Addr} {u v f g : HO} (hd : H d = some u) (he : H e = some v) (hne : d ≠ e) : upd (upd (upd (upd H d f) e g) e v) d u = H := by
  funext b
  by_cases h1 : b = d
  · rw [h1, upd_same, hd]
  · rw [upd_ne h1]
    by_cases h2 : b = e
    · rw [h2, upd_same, he]
    · rw [upd_ne h2, upd_ne h2, upd_ne h1]
def spPurEq (K : PySem.W.Frag) (C CP : Addr) : Sp := fun vs H Q _ => ∃ (p d : Addr) (hs : List (Str × Rat)) (y : V), vs = [.ref p, y] ∧ PurD C CP H p d hs ∧ Canon hs ∧
  ((∃ (q e : Addr) (gs : List (Str × Rat)), y = .ref q ∧ PurD C CP H q e gs ∧ Canon gs ∧ d ≠ e ∧ Q (.bl (decide (hs = gs))) H) ∨ ∃ ty, TyX K H y ty ∧ PySem.W.kitOne K ty (.ref C) = some false ∧ Q (.bl false) H)
theorem ok_Purse_eq (T : Tx a K mg w) : FnOk P w K mg base CX0 3 a.f_Purse_eq a.d_Purse_eq ps_Purse_eq (spPurEq K a.C_Purse a.C_Part) := by
  refine T.F_Purse_eq.ok sc_Purse_eq (fun vs H Q E h => ?_) (fun cdv A outer s H vs Q E hr h => ?_)
  · obtain ⟨p, d, hs, y, rfl, _⟩ := h
    rfl
  · obtain ⟨p, d, hs, y, rfl, ⟨dx, kvs, hp, hd, hP⟩, hcan, h⟩ := h
    have G_Part_eq := ok_Part_eq (P := P) (w := w) (base := base) T
    have B_Part_eq := bnd_Part_eq T
    have hr_Part_eq : Room 1 _ := hr.mono (by decide)
    have hr1_Part_eq : Room 2 _ := hr.mono (by decide)
    refine ⟨_, (pss_one (ps_ret (pe_and (pe_callB call_isi (by rfl) T.no_isinstance (by decide +kernel) (pa_cons (pv 1) (pa_cons (pe_glob (v := V.ref a.C_Purse) rfl T.mg_Purse rfl) pa_nil))) (pe_one (pe_lock (pe_lock (pe_cmpR (op_eq_dictO G_Part_eq hr1_Part_eq B_Part_eq pass0 T.m_Part_eq.at_ T.m_Part_eq.fn) (pe_fld (pv 0) rfl) (pe_fld (pv 1) rfl) (nomark _)))))))), ?_⟩
    show tRet _ _ [some (V.ref p), some y] H
    simp only [tDNewK, tDIn, tDNotIn, tDGet, sDPut, rIxL, rIxT, rEq, rNe, rIsi, sFld, rSlL, rIn, rEqD, tYes, tCallN, tSeq, tIfS, tOp, tVar, tC, tCB, tCons, tNil, rI0, rI, tTest, tRet, tRetN, tNext, tAsg, gName, gNil, gCons, gTup, gUnl, tLst, tTup, tCall, tMeth, tMake, tUn, rU, tAndV, tOrV, tNotV, tAnd, tOr, tNot, tIf, tB, tFld, tDrop, tPar, tNever, tBM, rAppend, tSl, tPart, tNoPart, tM1, tyLst, List.getElem?_cons_zero, List.getElem?_cons_succ, Option.some.injEq, exists_eq_left', exists_eq_left, V.int.injEq, V.bl.injEq, V.str.injEq, V.ref.injEq, List.set_cons_zero, List.set_cons_succ, exists_and_left, exists_and_right, and_assoc, List.cons.injEq, and_true, true_and, List.cons_append, List.nil_append, List.append_nil, List.length_cons, List.length_nil, exists_eq', exists_eq, exists_const, exists_eq_right, exists_eq_right', cxK, Cx.nox, Cx.wish]
    rcases h with ⟨q, e, gs, rfl, ⟨dy, kws, hq, he, hG⟩, hcg, hne, k⟩ | ⟨ty, h1, h2, k⟩
    · refine ⟨_, _, .own a.C_Purse, ty_Purse T hq, true, T.kit_Purse_Purse, iteT ?_⟩
      simp only [tLockE, rEqDO, tDNewK, tDIn, tDNotIn, tDGet, sDPut, rIxL, rIxT, rEq, rNe, rIsi, sFld, rSlL, rIn, rEqD, tYes, tCallN, tSeq, tIfS, tOp, tVar, tC, tCB, tCons, tNil, rI0, rI, tTest, tRet, tRetN, tNext, tAsg, gName, gNil, gCons, gTup, gUnl, tLst, tTup, tCall, tMeth, tMake, tUn, rU, tAndV, tOrV, tNotV, tAnd, tOr, tNot, tIf, tB, tFld, tDrop, tPar, tNever, tBM, rAppend, tSl, tPart, tNoPart, tM1, tyLst, List.getElem?_cons_zero, List.getElem?_cons_succ, Option.some.injEq, exists_eq_left', exists_eq_left, V.int.injEq, V.bl.injEq, V.str.injEq, V.ref.injEq, List.set_cons_zero, List.set_cons_succ, exists_and_left, exists_and_right, and_assoc, List.cons.injEq, and_true, true_and, List.cons_append, List.nil_append, List.append_nil, List.length_cons, List.length_nil, exists_eq', exists_eq, exists_const, exists_eq_right, exists_eq_right', cxK, Cx.nox, Cx.wish]
      have hpd : p ≠ d := fun z => by rw [z, hd] at hp; cases hp
      have hpe : p ≠ e := fun z => by rw [z, he] at hp; cases hp
      have hqd : q ≠ d := fun z => by rw [z, hd] at hq; cases hq
      have hqe : q ≠ e := fun z => by rw [z, he] at hq; cases hq
      refine ⟨d, .dK kvs, hd, trivial, fun od => ⟨e, .dK kws, by rw [upd_ne hne.symm]; exact he, trivial, fun oe => ?_⟩⟩
      have offL : ∀ b o, H b = some o → b ≠ d → b ≠ e → upd (upd H d (.frz od (.dK kvs))) e (.frz oe (.dK kws)) b = some o := fun b o hb h1 h2 => by rw [upd_ne h2, upd_ne h1]; exact hb
      have hPL : Paired (Ent (PartR a.C_Part (upd (upd H d (.frz od (.dK kvs))) e (.frz oe (.dK kws))))) kvs hs := ent_mono hP fun q z hz => by
        obtain ⟨dq, hz⟩ := hz
        exact ⟨dq, offL _ _ hz (fun y => by rw [y, hd] at hz; cases hz) (fun y => by rw [y, he] at hz; cases hz)⟩
      have hGL : Paired (Ent (PartR a.C_Part (upd (upd H d (.frz od (.dK kvs))) e (.frz oe (.dK kws))))) kws gs := ent_mono hG fun q z hz => by
        obtain ⟨dq, hz⟩ := hz
        exact ⟨dq, offL _ _ hz (fun y => by rw [y, hd] at hz; cases hz) (fun y => by rw [y, he] at hz; cases hz)⟩
      have l1 : kvs.length = hs.length := Paired.length hP
      have l2 : kws.length = gs.length := Paired.length hG
      refine ⟨_, _, _, offL _ _ hp hpd hpe, T.cl_Purse, T.na_Purse__held, _, held_yes, _, _, _, offL _ _ hq hqd hqe, T.cl_Purse, T.na_Purse__held, _, held_yes, d, rfl, e, rfl, od, oe, kvs, by rw [upd_ne hne]; exact upd_same, kws, upd_same, hs.all (fun x => decide (val gs x.1 = x.2)), fun _ => purse_held T hGL hcg.nd hPL hcan.nz, upd_same, by rw [upd_ne hne, upd_ne hne]; exact upd_same, ?_⟩
      rw [lock_two hd he hne, l1, l2, canon_all hcan hcg]
      exact k
    · exact ⟨_, _, .own a.C_Purse, h1, false, h2, iteF k⟩

/-! ### Part.__repr__ -/
def spPartRepr (C : Addr) : Sp := fun vs H Q _ => ∃ (p : Addr) (t l : Int), vs = [.ref p] ∧ PartAt C H p t l ∧ t.natAbs.log2 < 1920 ∧ l.natAbs.log2 < 1920 ∧ Q (.str (showP t l)) H
theorem ok_Part_repr (T : Tx a K mg w) : FnOk P w K mg base CX0 1 a.f_Part_repr a.d_Part_repr ps_Part_repr (spPartRepr a.C_Part) := by
  refine T.F_Part_repr.ok sc_Part_repr (fun vs H Q E h => ?_) (fun cdv A outer s H vs Q E hr h => ?_)
  · obtain ⟨p, t, l, rfl, _⟩ := h
    rfl
  · obtain ⟨p, t, l, rfl, ⟨dx, hp⟩, ht, hl, q⟩ := h
    refine ⟨_, (pss_cons (ps_if (pt_cmpR op_eq (pe_fld (pv 0) rfl) pe_int (nomark _)) (pss_one (ps_ret (pe_callTy call_str_int (by rfl) T.no_str (by decide +kernel) (pa_cons (pe_fld (pv 0) rfl) pa_nil)))) pss_nil)
      (pss_one (ps_ret (pe_joined (.cons (pe_fmt (pe_fld (pv 0) rfl)) (.cons pe_str (.cons (pe_fmt (pe_fld (pv 0) rfl)) .nil))))))), ?_⟩
    show tSeq _ _ _ [some (V.ref p)] H
    simp only [rEq, tFmt, tJs, tSeq, tIfS, tOp, tVar, tC, tCB, tCons, tNil, rI0, rI, tTest, tRet, tRetN, tNext, tAsg, gName, gNil, gCons, gTup, gUnl, tLst, tTup, tCall, tMeth, tMake, tUn, rU, tAndV, tOrV, tNotV, tAnd, tOr, tNot, tIf, tB, tFld, tDrop, tPar, tNever, tBM, rAppend, tSl, tPart, tNoPart, tM1, tyLst, List.getElem?_cons_zero, List.getElem?_cons_succ, Option.some.injEq, exists_eq_left', exists_eq_left, V.int.injEq, V.bl.injEq, V.str.injEq, V.ref.injEq, List.set_cons_zero, List.set_cons_succ, exists_and_left, exists_and_right, and_assoc, List.cons.injEq, and_true, true_and, List.cons_append, List.nil_append, List.append_nil, List.length_cons, List.length_nil, exists_eq', exists_eq, exists_const, exists_eq_right, exists_eq_right', cxK, Cx.nox, Cx.wish]
    refine ⟨_, _, _, hp, T.cl_Part, T.na_Part_low, _, fsP_low t l, rfl, ite2 (fun h0 => ?_) (fun h0 => ?_)⟩
    · have h0 : l = 1 := V.int.inj (of_decide_eq_true h0)
      refine ⟨_, _, _, hp, T.cl_Part, T.na_Part_top, _, fsP_top t l, t, rfl, ht, ?_⟩
      unfold showP at q
      rw [if_pos h0] at q
      exact q
    · have h0 : ¬ l = 1 := fun z => h0 (decide_eq_true (congrArg V.int z))
      unfold showP at q
      rw [if_neg h0] at q
      have st := Small.int ht
      have sl := Small.int hl
      have e1 : (Str.empty ++ ((toString t : String) : Str)) = ((toString t : String) : Str) := Str.empty_append _
      have s1 : Small (((toString t : String) : Str) ++ Str.ofString "/") 1922 := st.app (m := 1) ⟨by decide +kernel, by decide +kernel⟩
      have s2 := s1.app sl
      have hz : sizeLine = 16777216 := rfl
      refine ⟨_, _, _, hp, T.cl_Part, T.na_Part_top, _, fsP_top t l, .inr ⟨t, rfl, ht, ?_⟩⟩
      rw [e1]
      refine ⟨by have := st.len; omega, by have := s1.len; omega, _, _, _, hp, T.cl_Part, T.na_Part_low, _, fsP_low t l, .inr ⟨l, rfl, hl, by have := s2.len; omega, q⟩⟩

end
end My

set_option Elab.async false
set_option maxRecDepth 100000
set_option maxHeartbeats 4000000
set_option linter.all false
namespace My
open PySem L2 Own
section
variable {P : Program} {w : World} {K : PySem.W.Frag} {mg : Str → Option Value} {base : Heap} {a : Adr}
/-! ### Purse.__len__, Purse.__repr__ -/
def spPLen (C CP : Addr) : Sp := fun vs H Q _ => ∃ (p d : Addr) (hs : List (Str × Rat)), vs = [.ref p] ∧ PurD C CP H p d hs ∧ Q (.int hs.length) H
theorem ok_Purse_len (T : Tx a K mg w) : FnOk P w K mg base CX0 1 a.f_Purse_len a.d_Purse_len ps_Purse_len (spPLen a.C_Purse a.C_Part) := by
  refine T.F_Purse_len.ok sc_Purse_len (fun vs H Q E h => ?_) (fun cdv A outer s H vs Q E hr h => ?_)
  · obtain ⟨p, d, hs, rfl, _⟩ := h
    rfl
  · obtain ⟨p, d, hs, rfl, ⟨dx, kvs, hp, hd, hP⟩, k⟩ := h
    refine ⟨_, (pss_one (ps_ret (pe_callB call_lenD (by rfl) T.no_len (by decide +kernel) (pa_cons (pe_fld (pv 0) rfl) pa_nil)))), ?_⟩
    show tRet _ _ [some (V.ref p)] H
    simp only [tDNewK, tDIn, tDNotIn, tDGet, sDPut, rIxL, rIxT, rEq, rNe, rIsi, sFld, rSlL, rIn, rEqD, tYes, tCallN, tSeq, tIfS, tOp, tVar, tC, tCB, tCons, tNil, rI0, rI, tTest, tRet, tRetN, tNext, tAsg, gName, gNil, gCons, gTup, gUnl, tLst, tTup, tCall, tMeth, tMake, tUn, rU, tAndV, tOrV, tNotV, tAnd, tOr, tNot, tIf, tB, tFld, tDrop, tPar, tNever, tBM, rAppend, tSl, tPart, tNoPart, tM1, tyLst, List.getElem?_cons_zero, List.getElem?_cons_succ, Option.some.injEq, exists_eq_left', exists_eq_left, V.int.injEq, V.bl.injEq, V.str.injEq, V.ref.injEq, List.set_cons_zero, List.set_cons_succ, exists_and_left, exists_and_right, and_assoc, List.cons.injEq, and_true, true_and, List.cons_append, List.nil_append, List.append_nil, List.length_cons, List.length_nil, exists_eq', exists_eq, exists_const, exists_eq_right, exists_eq_right', cxK, Cx.nox, Cx.wish]
    refine ⟨_, _, _, hp, T.cl_Purse, T.na_Purse__held, _, held_yes, d, rfl, kvs, hd, ?_⟩
    rw [Paired.length hP]
    exact k
/-- what is shown of a row of a purse -/
def shownE (e : Str × Rat) : Str := (showP e.2.num e.2.den ++ Str.ofString " ") ++ e.1
theorem showP_small {x : Rat} (h : Sz x 1900) : Small (showP x.num x.den) 3843 := by
  have ht : x.num.natAbs.log2 < 1920 := log2_of (Nat.lt_of_lt_of_le h.n (Nat.pow_le_pow_right (by decide) (by decide)))
  have hl : (x.den : Int).natAbs.log2 < 1920 := log2_of (Nat.lt_of_lt_of_le h.d (Nat.pow_le_pow_right (by decide) (by decide)))
  have st := Small.int ht
  have sl := Small.int hl
  have s1 : Small (((toString x.num : String) : Str) ++ Str.ofString "/") 1922 := st.app (m := 1) ⟨by decide +kernel, by decide +kernel⟩
  have s2 := s1.app sl
  unfold showP
  split
  · exact ⟨by have := st.len; omega, st.low⟩
  · exact s2
theorem shownE_small {e : Str × Rat} {n : Nat} (h : Sz e.2 1900) (hn : Small e.1 n) : Small (shownE e) (3844 + n) :=
  ((showP_small h).app (m := 1) ⟨by decide +kernel, by decide +kernel⟩).app hn
def showL (hs : List (Str × Rat)) : Str := if hs = [] then Str.ofString "nought" else PySem.Txt.join (Str.ofString ", ") (hs.map shownE)
theorem sum_le {ys : List Str} {n : Nat} : (∀ y ∈ ys, y.length ≤ n) → (ys.map (·.length)).sum ≤ ys.length * n := by
  induction ys with
  | nil => intro _; exact Nat.zero_le _
  | cons y ys ih =>
    intro h
    rw [List.map_cons, List.sum_cons, List.length_cons, Nat.succ_mul]
    have h1 := h y List.mem_cons_self
    have h2 := ih fun z hz => h z (List.mem_cons_of_mem _ hz)
    omega
def spPRepr (C CP : Addr) : Sp := fun vs H Q _ => ∃ (p d : Addr) (hs : List (Str × Rat)), vs = [.ref p] ∧ PurD C CP H p d hs ∧ (∀ e ∈ hs, Sz e.2 1900 ∧ Small e.1 100) ∧ hs.length ≤ 64 ∧ ∀ H', Ext H H' → Q (.str (showL hs)) H'
theorem ok_Purse_repr (T : Tx a K mg w) : FnOk P w K mg base CX0 4 a.f_Purse_repr a.d_Purse_repr ps_Purse_repr (spPRepr a.C_Purse a.C_Part) := by
  refine T.F_Purse_repr.ok sc_Purse_repr (fun vs H Q E h => ?_) (fun cdv A outer s H vs Q E hr h => ?_)
  · obtain ⟨p, d, hs, rfl, _⟩ := h
    rfl
  · obtain ⟨p, d, hs, rfl, ⟨dx, kvs, hp, hd, hP⟩, hsz, hln, k⟩ := h
    have G_Part_repr := ok_Part_repr (P := P) (w := w) (base := base) T
    have B_Part_repr := bnd_Part_repr T
    have hr_Part_repr : Room 1 _ := hr.mono (by decide)
    have hr1_Part_repr : Room 2 _ := hr.mono (by decide)
    have hr2_Part_repr : Room 3 _ := hr.mono (by decide)
    refine ⟨_, (pss_cons (ps_if (pt_cmpR op_eq (pe_callB call_lenD (by rfl) T.no_len (by decide +kernel) (pa_cons (pe_fld (pv 0) rfl) pa_nil)) pe_int (nomark _)) (pss_one (ps_ret pe_str)) pss_nil)
      (pss_one (ps_ret (pe_joinN pe_str (pe_lock (pe_lc (own := [("coin", 1), ("held", 2)]) (g := gTup K 2 (gCons (gName 1) (gCons (gName 2) gNil))) rfl sc_Purse_repr.nd (pi_items (pe_fld (pv 0) rfl)) (blkOk_by (own := [("coin", 1), ("held", 2)]) (N := N_Purse_repr) (sc := defScope s_Purse_repr) (by decide +kernel)) (fun _ _ _ _ _ => (pg_tup rfl (pgs_cons (pg_name (i := 1) sc_Purse_repr.nd rfl (Or.inl rfl) (Or.inr rfl)) (pgs_cons (pg_name (i := 2) sc_Purse_repr.nd rfl (Or.inl rfl) (Or.inr rfl)) pgs_nil)) (by rfl))) (fun _ _ _ _ _ => pts_nil) (fun _ _ _ _ _ => (pe_joined (.cons (pe_fmtO G_Part_repr hr2_Part_repr B_Part_repr pass0 T.m_Part_repr.at_ T.m_Part_repr.fn T.ff_Part T.fs_Part T.mro_Part (pv 2)) (.cons pe_str (.cons (pe_fmt (pv 1)) .nil))))))))))), ?_⟩
    show tSeq _ _ _ [some (V.ref p), none, none] H
    have hz16 : sizeLine = 16777216 := rfl
    have hkl : kvs.length = hs.length := Paired.length hP
    simp only [tLockE, rEq, tDNewK, tDIn, tDNotIn, tDGet, sDPut, rIxL, rIxT, rEq, rNe, rIsi, sFld, rSlL, rIn, rEqD, tYes, tCallN, tSeq, tIfS, tOp, tVar, tC, tCB, tCons, tNil, rI0, rI, tTest, tRet, tRetN, tNext, tAsg, gName, gNil, gCons, gTup, gUnl, tLst, tTup, tCall, tMeth, tMake, tUn, rU, tAndV, tOrV, tNotV, tAnd, tOr, tNot, tIf, tB, tFld, tDrop, tPar, tNever, tBM, rAppend, tSl, tPart, tNoPart, tM1, tyLst, List.getElem?_cons_zero, List.getElem?_cons_succ, Option.some.injEq, exists_eq_left', exists_eq_left, V.int.injEq, V.bl.injEq, V.str.injEq, V.ref.injEq, List.set_cons_zero, List.set_cons_succ, exists_and_left, exists_and_right, and_assoc, List.cons.injEq, and_true, true_and, List.cons_append, List.nil_append, List.append_nil, List.length_cons, List.length_nil, exists_eq', exists_eq, exists_const, exists_eq_right, exists_eq_right', cxK, Cx.nox, Cx.wish]
    refine ⟨_, _, _, hp, T.cl_Purse, T.na_Purse__held, _, held_yes, d, rfl, kvs, hd, rfl, ?_⟩
    cases hs with
    | nil =>
      cases hP
      exact iteT (k H (Ext.refl' _))
    | cons e0 hs0 =>
    have hne : (e0 :: hs0) ≠ [] := List.cons_ne_nil _ _
    generalize hse : e0 :: hs0 = hs at hne hP hsz hln k hkl
    have hl0 : 0 < hs.length := List.length_pos_iff.mpr hne
    clear hse e0 hs0
    rw [decide_eq_false (by omega : ¬ ((kvs.length : Int) = 0))]
    refine iteF ?_
    refine ⟨d, .dK kvs, hd, trivial, fun od => ?_⟩
    generalize hF : upd H d (.frz od (.dK kvs)) = HF
    have offF : Off d H HF := hF ▸ Off.upd
    have fF : HF d = some (.frz od (.dK kvs)) := hF ▸ upd_same
    have hpd : p ≠ d := fun z => by rw [z, hd] at hp; cases hp
    have hPF : Paired (Ent (PartR a.C_Part HF)) kvs hs := ent_mono hP fun _ _ z => z.off hd offF
    have hpF := offF _ _ hp hpd
    refine tLc_i (J := Iti d od kvs) (fun R r => by simp only [iItems, tDNewK, tDIn, tDNotIn, tDGet, sDPut, rIxL, rIxT, rEq, rNe, rIsi, sFld, rSlL, rIn, rEqD, tYes, tCallN, tSeq, tIfS, tOp, tVar, tC, tCB, tCons, tNil, rI0, rI, tTest, tRet, tRetN, tNext, tAsg, gName, gNil, gCons, gTup, gUnl, tLst, tTup, tCall, tMeth, tMake, tUn, rU, tAndV, tOrV, tNotV, tAnd, tOr, tNot, tIf, tB, tFld, tDrop, tPar, tNever, tBM, rAppend, tSl, tPart, tNoPart, tM1, tyLst, List.getElem?_cons_zero, List.getElem?_cons_succ, Option.some.injEq, exists_eq_left', exists_eq_left, V.int.injEq, V.bl.injEq, V.str.injEq, V.ref.injEq, List.set_cons_zero, List.set_cons_succ, exists_and_left, exists_and_right, and_assoc, List.cons.injEq, and_true, true_and, List.cons_append, List.nil_append, List.append_nil, List.length_cons, List.length_nil, exists_eq', exists_eq, exists_const, exists_eq_right, exists_eq_right', cxK, Cx.nox, Cx.wish]; exact ⟨_, _, _, hpF, T.cl_Purse, T.na_Purse__held, _, held_yes, d, rfl, od, kvs, fF, r⟩) walk_items fun D hD => ?_
    refine ⟨fun i H' => Ext HF H' ∧ H' D = some (.lst (((hs.take i).map shownE).map V.str)), ⟨Ext.upd hD, upd_same⟩, fun i H' _ h => h.1 _ _ fF, ?_, ?_⟩
    · rintro i y H1 H2 hi ⟨eF, fD⟩ ⟨tq, xk, xv, rfl, htq, rfl, hxk, hxv⟩
      have hk : kvs[i]? = some kvs[i] := List.getElem?_eq_getElem hi
      obtain ⟨e, he, q2, hkv, hq2⟩ := LiI.paired_get hPF hk
      have hxk : kvs[i]?.map (fun kv => kV kv.1) = some xk := hxk
      have hxv : kvs[i]?.map Prod.snd = some xv := hxv
      rw [hk, hkv] at hxk hxv
      obtain rfl : xk = V.str e.1 := (Option.some.inj hxk).symm
      obtain rfl : xv = V.ref q2 := (Option.some.inj hxv).symm
      generalize hE : upd H1 tq _ = H3
      obtain ⟨e3, f3⟩ := alloc htq hE
      have ew : (wipe [some (V.ref p), none, none] (List.map (fun x => x.snd) [((Str.ofString "coin" : Str), 1), ((Str.ofString "held" : Str), 2)])) = [some (V.ref p), none, none] := rfl
      simp only [ew, tJs, tFmt, tFmtO, tDNewK, tDIn, tDNotIn, tDGet, sDPut, rIxL, rIxT, rEq, rNe, rIsi, sFld, rSlL, rIn, rEqD, tYes, tCallN, tSeq, tIfS, tOp, tVar, tC, tCB, tCons, tNil, rI0, rI, tTest, tRet, tRetN, tNext, tAsg, gName, gNil, gCons, gTup, gUnl, tLst, tTup, tCall, tMeth, tMake, tUn, rU, tAndV, tOrV, tNotV, tAnd, tOr, tNot, tIf, tB, tFld, tDrop, tPar, tNever, tBM, rAppend, tSl, tPart, tNoPart, tM1, tyLst, List.getElem?_cons_zero, List.getElem?_cons_succ, Option.some.injEq, exists_eq_left', exists_eq_left, V.int.injEq, V.bl.injEq, V.str.injEq, V.ref.injEq, List.set_cons_zero, List.set_cons_succ, exists_and_left, exists_and_right, and_assoc, List.cons.injEq, and_true, true_and, List.cons_append, List.nil_append, List.append_nil, List.length_cons, List.length_nil, exists_eq', exists_eq, exists_const, exists_eq_right, exists_eq_right', cxK, Cx.nox, Cx.wish]
      have eF3 := eF.trans e3
      obtain ⟨dq2, hq3⟩ := hq2.ext eF3
      have hem := List.mem_of_getElem? he
      have hs1 := hsz e hem
      have sp := showP_small hs1.1
      have se := shownE_small hs1.1 hs1.2
      have fD3 := e3 _ _ fD
      have e0 : (Str.empty ++ showP e.2.num e.2.den) = showP e.2.num e.2.den := Str.empty_append _
      have s1 : Small (showP e.2.num e.2.den ++ Str.ofString " ") 3844 := sp.app (m := 1) ⟨by decide +kernel, by decide +kernel⟩
      refine ⟨_, ofT f3, rfl, _, _, rfl, _, _, rfl, rfl, rfl, ?_⟩
      rw [if_pos trivial]
      have ht : e.2.num.natAbs.log2 < 1920 := log2_of (Nat.lt_of_lt_of_le hs1.1.n (Nat.pow_le_pow_right (by decide) (by decide)))
      have hl : (e.2.den : Int).natAbs.log2 < 1920 := log2_of (Nat.lt_of_lt_of_le hs1.1.d (Nat.pow_le_pow_right (by decide) (by decide)))
      have es : Str.empty ++ showP e.2.num e.2.den ++ Str.ofString " " ++ e.1 = shownE e := by rw [e0]; rfl
      refine ⟨q2, rfl, ⟨_, _, hq3⟩, q2, e.2.num, e.2.den, rfl, ⟨_, hq3⟩, ht, hl, ⟨_, rfl⟩, _, rfl, ?_, ?_, .inl ⟨e.1, rfl, ?_, ?_, _, fD3, ?_, upd_ext eF3 hD, ?_⟩⟩
      · rw [e0]
        have := sp.len
        omega
      · rw [e0]
        have := s1.len
        omega
      · have := hs1.2.len
        omega
      · rw [es]
        have := se.len
        omega
      · rw [List.length_map, List.length_map, List.length_take]
        omega
      · rw [upd_same, es, take_snoc he, List.map_append, List.map_append]
        rfl
    · rintro H1 ⟨eF, fD⟩
      rw [List.take_of_length_le (by omega)] at fD
      refine ⟨eF _ _ fF, ?_⟩
      have e01 : Ext H (upd H1 d (.dK kvs)) := lock_out (od := od) hd (hF ▸ eF)
      have hDd : D ≠ d := fun z => by rw [z, fF] at hD; cases hD
      have hall : ∀ y ∈ hs.map shownE, y.length ≤ 3944 := fun y hy => by
        obtain ⟨e, he, rfl⟩ := List.mem_map.mp hy
        exact (shownE_small (hsz e he).1 (hsz e he).2).len
      have hsum := sum_le hall
      refine ⟨_, D, hs.map shownE, rfl, rfl, .inl (ofL (by rw [upd_ne hDd]; exact fD)), ?_, ?_⟩
      · rw [List.length_map] at hsum ⊢
        have h2 : (Str.ofString ", ").length = 2 := by decide +kernel
        rw [h2]
        omega
      · have hq := k _ e01
        unfold showL at hq
        rw [if_neg hne] at hq
        exact hq

/-- what rising names with the same sums are of -/
theorem canon_of {hs es : List (Str × Rat)} (h : Canon hs) (nd : (es.map (·.1)).Nodup) (e : ∀ n, val hs n = val es n) : hs.length ≤ es.length ∧ ∀ x ∈ hs, x ∈ es := by
  have key : ∀ x ∈ hs, x ∈ es := fun x hx => by
    have h1 := val_mem (n := x.1) h.nd hx
    have hn : x.1 ∈ es.map (·.1) := Classical.byContradiction fun z => h.nz x hx (by rw [← h1, e, val_miss z])
    obtain ⟨y, hy, hyx⟩ := List.mem_map.mp hn
    have h2 := val_mem (n := y.1) nd hy
    rw [hyx, ← e, h1] at h2
    have : x = y := Prod.ext hyx.symm h2
    exact this ▸ hy
  refine ⟨?_, key⟩
  have := nodup_le (m := es.map (·.1)) h.nd fun n hn => by
    obtain ⟨x, hx, rfl⟩ := List.mem_map.mp hn
    exact List.mem_map.mpr ⟨x, key x hx, rfl⟩
  rw [List.length_map, List.length_map] at this
  exact this
/-- told of a purse, and due: the same -/
theorem told_due2 {C CP : Addr} {r dr b : Addr} {rs es : List (Str × Rat)} {B : Nat} {H : Hp} {Q : VK} {E : XK} (hP : PurD C CP H r dr rs) (hc : Canon rs) (hB : BagG H b es) (nd : (es.map (·.1)).Nodup) (hl : es.length < 64) (hv : ∀ n, val rs n = val es n) (hsz : ∀ x ∈ es, Sz x.2 B) (hB9 : B ≤ 1900) (hsm : ∀ x ∈ es, ∃ n, Small x.1 n ∧ n ≤ 100) (k : ∀ H', Ext H H' → Q (.bl false) H') :
    spTold C CP [.ref r] H (fun x H1 => spDue [.ref b] H1 (fun y H2 => rNeD K x y H2 Q) E) E := by
  obtain ⟨hlen, hsub⟩ := canon_of hc nd hv
  refine ⟨r, dr, rs, rfl, hP, hc.nd, by omega, fun q H1 e1 _ h1 => ?_⟩
  refine ⟨b, es, rfl, hB.ext e1, nd, hl, fun q2 H2 cs e2 _ hcc hvc h2 => ?_⟩
  have heq : rs = cs := hc.eq hcc fun n => by rw [hv, hvc]
  subst heq
  have hn : Neat (.list (rs.map row3D)) := (Mild.rows3 (fun e he => ⟨hsm e (hsub e he), (hsz e (hsub e he)).mono hB9⟩) (by omega)).neat (by decide) (by decide)
  refine ⟨_, _, (h1.ext e2).dp, h2.dp, hn.shaped, hn.shaped, ?_⟩
  rw [hn.refl]
  exact k H2 (e1.trans e2)

end
end My

set_option Elab.async false
set_option maxRecDepth 100000
set_option maxHeartbeats 4000000
set_option linter.all false
namespace My
open PySem L2 Own
section
variable {P : Program} {w : World} {K : PySem.W.Frag} {mg : Str → Option Value} {base : Heap} {a : Adr}
/-! ### the law -/
theorem Good.small {zs : List Str} (h : Good zs) {z : Str} (hz : z ∈ zs) : Small z 6 := by
  obtain ⟨k, h1, _, h2⟩ := h.each z hz
  exact h1.small.mono h2
theorem name_idx {zs : List Str} {z : Str} (nd : zs.Nodup) (h : z ∈ zs) : ∃ j : Nat, zs[j]? = some z ∧ ∀ (m : Nat) (w : V), m < j → (zs.map V.str)[m]? = some w → eqV w (V.str z) = false := by
  obtain ⟨j, hj⟩ := List.mem_iff_getElem?.mp h
  refine ⟨j, hj, fun m w hm hw => ?_⟩
  rw [List.getElem?_map] at hw
  cases e : zs[m]? with
  | none => rw [e] at hw; cases hw
  | some y =>
    rw [e] at hw
    obtain rfl : w = V.str y := (Option.some.inj hw).symm
    have hne : y ≠ z := fun ez => by
      obtain ⟨hjl, e1⟩ := List.getElem?_eq_some_iff.mp hj
      obtain ⟨hml, e2⟩ := List.getElem?_eq_some_iff.mp e
      exact List.pairwise_iff_getElem.mp (List.nodup_iff_pairwise_ne.mp nd) m j hml hjl hm (e2.trans (ez.trans e1.symm))
    simp [eqV, hne]
theorem BagG.offL {H H' : Hp} {d c : Addr} {es : List (Str × Rat)} {xs : List V} (h : BagG H d es) (hc : H c = some (.lst xs)) (e : Off c H H') : BagG H' d es := by
  obtain ⟨kvs, h1, h2⟩ := h
  exact ⟨kvs, e _ _ h1 (fun y => by rw [y, hc] at h1; cases h1), ent_mono h2 fun q z t => e _ _ t fun y => by unfold TupR at t; rw [y, hc] at t; cases t⟩
theorem rowP_off {C d : Addr} {H H' : Hp} {ts : List Addr} {es : List (Str × Rat)} {kvs : List (Key × V)} (h : Paired (RowP C H) ts es) (hd : H d = some (.dK kvs)) (e : Off d H H') : Paired (RowP C H') ts es := pmono (fun t r z => by
  obtain ⟨q, h1, h2⟩ := z
  exact ⟨q, e _ _ h1 (fun y => by rw [y, hd] at h1; cases h1), h2.off hd e⟩) h
theorem Off.ext_new {d : Addr} {H H1 H2 : Hp} (e : Ext H H1) (hd : H d = none) (h : Off d H1 H2) : Ext H H2 := fun b o hb => h b o (e _ _ hb) fun z => by rw [z, hd] at hb; cases hb
theorem atI_last {α : Type} {xs : List α} {x : α} (h : xs.getLast? = some x) : atI xs (-1) = some x := by
  rw [List.getLast?_eq_getElem?] at h
  have hl := (List.getElem?_eq_some_iff.mp h).1
  unfold atI ixN
  rw [if_neg (by omega), if_pos (by omega)]
  show xs[((-1 : Int) + (xs.length : Int)).toNat]? = some x
  rw [show ((-1 : Int) + (xs.length : Int)).toNat = xs.length - 1 by omega]
  exact h
theorem tyLst' {H : Hp} {p : Addr} {xs : List V} (h : SqL K H p xs) : tyV K "list" (.ref p) H := .inl ⟨rfl, _, h⟩
theorem mk_purse {C CP x dx r : Addr} {ts : List Addr} {es : List (Str × Rat)} {b : Nat} {H : Hp} {Q : VK} {E : XK} (hx : H x = none) (hdx : H dx = none) (hr : SqL K H r (ts.map V.ref) ∨ SqT K H r (ts.map V.ref)) (hT : Paired (RowP CP H) ts es) (hsz : ∀ e ∈ es, Sz e.2 b) (h1 : 1 + es.length * (b + 1) ≤ 1000) (h2 : es.length < 64)
    (k : ∀ H' hs d, Ext H H' → H d = none → Canon hs → (∀ n, val hs n = val es n) → PurD C CP H' x d hs → Q .non H') : spPurseG K C CP [.ref x, .ref r] (upd (upd H dx (.own x)) x (.ins C dx [])) Q E := by
  have eU : Ext H (upd (upd H dx (.own x)) x (.ins C dx [])) := upd_ext (Ext.upd hdx) hx
  exact ⟨x, dx, r, ts, es, b, rfl, upd_same, hr.imp (fun h => seqL h eU) (fun h => h.ext eU), rowP_ext hT eU, hsz, h1, h2, fun H' hs d hc hv hkeep nd hP => k H' hs d (fun b o hb => hkeep b o (eU _ _ hb) (ne_of_none hb hx)) (none_upd (none_upd nd)) hc hv hP⟩
theorem seq0 {n : Nat} (h : 0 < n) : PySem.seqIndex? 0 n = some 0 := by
  unfold PySem.seqIndex?
  have : ((0 : Int) < (n : Int)) := by omega
  simp [this, Nat.pos_iff_ne_zero.mp h]
theorem neat_int {i : Int} (h : i.natAbs < 2 ^ 60) : Neat (.int i) := (Mild.int (log2_of (Nat.lt_of_lt_of_le h (Nat.pow_le_pow_right (by decide) (by decide))))).neat (by decide) (by decide)
theorem join_small {n : Nat} : ∀ ys : List Str, (∀ y ∈ ys, Small y n) → Small (Str.join (Str.ofString ", ") ys) (ys.length * (n + 2))
  | [], _ => Small.mono (x := Str.empty) (n := 0) ⟨by decide +kernel, by decide +kernel⟩ (Nat.zero_le _)
  | [x], h => (h x List.mem_cons_self).mono (by show n ≤ 1 * (n + 2); omega)
  | x :: y :: r, h => by
    have ih := join_small (y :: r) fun z hz => h z (List.mem_cons_of_mem _ hz)
    have e : Str.join (Str.ofString ", ") (x :: y :: r) = (x ++ Str.ofString ", ") ++ Str.join (Str.ofString ", ") (y :: r) := rfl
    rw [e]
    have s2 : Small (Str.ofString ", ") 2 := ⟨by decide +kernel, by decide +kernel⟩
    refine (((h x List.mem_cons_self).app s2).app ih).mono ?_
    rw [List.length_cons (a := x), Nat.succ_mul]
    omega
theorem showL_small {hs : List (Str × Rat)} (h : ∀ e ∈ hs, Sz e.2 1900 ∧ Small e.1 100) (hl : hs.length ≤ 8) : Small (showL hs) 40000 := by
  unfold showL
  split
  · exact Small.mono (n := 6) ⟨by decide +kernel, by decide +kernel⟩ (by decide)
  · rw [TL.join_eq]
    refine (join_small (n := 3944) _ fun y hy => ?_).mono ?_
    · obtain ⟨e, he, rfl⟩ := List.mem_map.mp hy
      exact shownE_small (h e he).1 (h e he).2
    · rw [List.length_map]
      omega
theorem neat_str {y : Str} (h : Small y 40000) : Neat (.str y) := (Mild.str h).neat (by decide) (by decide)
theorem eq_pur (T : Tx a K mg w) {p q d e : Addr} {hs gs : List (Str × Rat)} {H : Hp} {Q : VK} (hp : PurD a.C_Purse a.C_Part H p d hs) (hq : PurD a.C_Purse a.C_Part H q e gs) (hc : Canon hs) (hc2 : Canon gs) (hde : d ≠ e) (k : Q (.bl (decide (hs = gs))) H) :
    rEqI K a.C_Purse (spPurEq K a.C_Purse a.C_Part) E0 V.bl (.ref p) (.ref q) H Q := by
  obtain ⟨dx, kvs, i1, i2, i3⟩ := id hp
  obtain ⟨dy, kws, j1, j2, j3⟩ := id hq
  exact ⟨p, _, _, _, rfl, i1, ty_Purse T j1, T.nf_Purse_Purse, p, d, hs, .ref q, rfl, hp, hc, .inl ⟨q, e, gs, rfl, hq, hc2, hde, _, rfl, k⟩⟩
theorem pur_dict_ne {C CP p d e : Addr} {hs : List (Str × Rat)} {H : Hp} (h : PurD C CP H p d hs) (he : H e = none) : d ≠ e := by
  obtain ⟨_, kv, _, h2, _⟩ := h
  exact (ne_of_new he h2).symm
theorem eqv_nil {hs : List (Str × Rat)} : PyData.eqv (.list (hs.map row3D)) (.list []) = decide (hs = []) := by
  cases hs <;> rfl
def spLaw (K : PySem.W.Frag) : Sp := fun vs H Q _ => ∃ (l : Addr) (ns : List Int), vs = [.ref l] ∧ SqL K H l (ns.map V.int) ∧ ns.length ≤ 63 ∧ ∀ H', Q (.bl true) H'
theorem ok_law (T : Tx a K mg w) : FnG P w K mg base CX0 8 a.f_law a.d_law ps_law (spLaw K) := by
  refine okG T.F_law sc_law (fun vs H Q E h => ?_) (fun cdv A outer s H vs Q E hgd hr h => ?_)
  · obtain ⟨l, ns, rfl, _⟩ := h
    rfl
  · obtain ⟨l, ns, rfl, hs, hn, q⟩ := h
    have hu := hu_of hr
    have G_l_digits := ok_l_digits (P := P) (w := w) (base := base) T
    have B_l_digits := bnd_l_digits T
    have hr_l_digits : Room 2 _ := hr.mono (by decide)
    have G_l_names := ok_l_names (P := P) (w := w) (base := base) T
    have B_l_names := bnd_l_names T
    have hr_l_names : Room 3 _ := hr.mono (by decide)
    have G_l_add := ok_l_add (P := P) (w := w) (base := base) T
    have B_l_add := bnd_l_add T
    have hr_l_add : Room 3 _ := hr.mono (by decide)
    have G_l_due := ok_l_due (P := P) (w := w) (base := base) T
    have B_l_due := bnd_l_due T
    have hr_l_due : Room 1 _ := hr.mono (by decide)
    have G_l_told := ok_l_told (P := P) (w := w) (base := base) T
    have B_l_told := bnd_l_told T
    have hr_l_told : Room 4 _ := hr.mono (by decide)
    have G_l_same := ok_l_same (P := P) (w := w) (base := base) T
    have B_l_same := bnd_l_same T
    have hr_l_same : Room 2 _ := hr.mono (by decide)
    have G_Part_init := ok_Part_init (P := P) (w := w) (base := base) T
    obtain ⟨_, D_Part_init_1, B_Part_init_1⟩ := bnd_Part_init_1 T
    obtain ⟨_, D_Part_init_2, B_Part_init_2⟩ := bnd_Part_init_2 T
    have hr_Part_init : Room 1 _ := hr.mono (by decide)
    have hr1_Part_init : Room 2 _ := hr.mono (by decide)
    have G_Purse_init := ok_Purse_init (P := P) (w := w) (base := base) T
    obtain ⟨_, D_Purse_init_0, B_Purse_init_0⟩ := bnd_Purse_init_0 T
    obtain ⟨_, D_Purse_init_1, B_Purse_init_1⟩ := bnd_Purse_init_1 T
    have hr_Purse_init : Room 4 _ := hr.mono (by decide)
    have hr1_Purse_init : Room 5 _ := hr.mono (by decide)
    have G_Purse_at := ok_Purse_at (P := P) (w := w) (base := base) T
    have B_Purse_at := bnd_Purse_at T
    have hr_Purse_at : Room 3 _ := hr.mono (by decide)
    have G_Purse_coins := ok_Purse_coins (P := P) (w := w) (base := base) T
    have B_Purse_coins := bnd_Purse_coins T
    have hr_Purse_coins : Room 1 _ := hr.mono (by decide)
    have G_Purse_eq := ok_Purse_eq (P := P) (w := w) (base := base) T
    have B_Purse_eq := bnd_Purse_eq T
    have hr_Purse_eq : Room 3 _ := hr.mono (by decide)
    have G_Purse_len := ok_Purse_len (P := P) (w := w) (base := base) T
    have B_Purse_len := bnd_Purse_len T
    have hr_Purse_len : Room 1 _ := hr.mono (by decide)
    have hr1_Purse_len : Room 2 _ := hr.mono (by decide)
    have G_Purse_repr := ok_Purse_repr (P := P) (w := w) (base := base) T
    have B_Purse_repr := bnd_Purse_repr T
    have hr_Purse_repr : Room 4 _ := hr.mono (by decide)
    have hr1_Purse_repr : Room 5 _ := hr.mono (by decide)
    refine ⟨_, (pss_cons (ps_set (i := 0) sc_law.nd rfl (by first | exact Or.inl rfl | exact Or.inr rfl) (pe_slice sl_list (pv 0) po_none (po_some pe_int)))
      (pss_cons (ps_set (i := 1) sc_law.nd rfl (by first | exact Or.inl rfl | exact Or.inr rfl) (pe_call G_l_names hr_l_names (by rfl) T.mg_l_names T.F_l_names.kp B_l_names .nil pass0 (pa_cons (pv 0) (pa_cons pe_int (pa_cons pe_int pa_nil)))))
      (pss_cons (ps_asg (pe_call G_l_digits hr_l_digits (by rfl) T.mg_l_digits T.F_l_digits.kp B_l_digits .nil pass0 (pa_cons (pv 0) (pa_cons pe_int (pa_cons (pe_lst (pa_cons pe_int (pa_cons pe_int pa_nil))) pa_nil)))) (pg_unl rfl (pgs_cons (pg_name (i := 2) sc_law.nd rfl (by first | exact Or.inl rfl | exact Or.inr rfl)) (pgs_cons (pg_name (i := 3) sc_law.nd rfl (by first | exact Or.inl rfl | exact Or.inr rfl)) pgs_nil)) (by rfl)))
      (pss_cons (ps_par (i := 4) (j := 5) (by rfl) sc_law.nd rfl rfl (by decide) rfl rfl (pa_cons (pe_lst pa_nil) (pa_cons pe_dnewK pa_nil)) (by rfl))
      (pss_cons (ps_for PassesOwn.never rfl (pi_range1 rfl T.no_range (pa_cons (pv 2) pa_nil)) (pg_name (i := 6) sc_law.nd rfl (by first | exact Or.inl rfl | exact Or.inr rfl))
        (pss_cons (ps_asg (pe_call G_l_digits hr_l_digits (by rfl) T.mg_l_digits T.F_l_digits.kp B_l_digits .nil pass0 (pa_cons (pv 0) (pa_cons (pe_op op_add pe_int (pv 6)) (pa_cons (pe_lst (pa_cons pe_int (pa_cons pe_int (pa_cons pe_int (pa_cons pe_int pa_nil))))) pa_nil)))) (pg_unl rfl (pgs_cons (pg_name (i := 7) sc_law.nd rfl (by first | exact Or.inl rfl | exact Or.inr rfl)) (pgs_cons (pg_name (i := 8) sc_law.nd rfl (by first | exact Or.inl rfl | exact Or.inr rfl)) (pgs_cons (pg_name (i := 9) sc_law.nd rfl (by first | exact Or.inl rfl | exact Or.inr rfl)) (pgs_cons (pg_name (i := 10) sc_law.nd rfl (by first | exact Or.inl rfl | exact Or.inr rfl)) pgs_nil)))) (by rfl)))
        (pss_cons (ps_if (PW.pt (pw_and (pt_cmpR op_eq (pv 10) pe_int (nomark _)) (pw_and1 (pt_cmpR (op_ne_nil (Nat.lt_of_succ_lt hu)) (pv 4) (pe_lst pa_nil) (nomark _))))) (pss_cons (ps_set (i := 11) sc_law.nd rfl (by first | exact Or.inl rfl | exact Or.inr rfl) (pe_ix ix_list (pv 4) (pe_un un_neg pe_int) (fun _ _ => rfl)))
          (pss_cons (ps_set (i := 7) sc_law.nd rfl (by first | exact Or.inl rfl | exact Or.inr rfl) (pe_bm PySem.F.plainAttrs_list PySem.F.slot_list_index PySem.F.type_list_index mt_index (pv 1) (pa_cons (pe_ix ix_tup (pv 11) pe_int (fun _ _ => rfl)) pa_nil)))
          (pss_one (ps_par (i := 8) (j := 9) (by rfl) sc_law.nd rfl rfl (by decide) rfl rfl (pa_cons (pe_op op_sub pe_int (pe_fld (pe_ix ix_tup (pv 11) pe_int (fun _ _ => rfl)) rfl)) (pa_cons (pe_op op_sub (pe_fld (pe_ix ix_tup (pv 11) pe_int (fun _ _ => rfl)) rfl) pe_int) pa_nil)) (by rfl))))) pss_nil)
        (pss_cons (ps_expr (pe_bm PySem.F.plainAttrs_list PySem.F.slot_list_append PySem.F.type_list_append mt_append (pv 4) (pa_cons (pe_tup (pa_cons (pe_ix ix_list (pv 1) (pv 7) (fun _ _ => rfl)) (pa_cons (pe_make T.mk_Part G_Part_init hr1_Part_init (by rfl) T.mg_Part B_Part_init_2 D_Part_init_2 pass0 (pa_cons (pv 8) (pa_cons (pe_op op_add pe_int (pv 9)) pa_nil))) pa_nil))) pa_nil)))
        (pss_one (ps_expr (pe_call G_l_add hr_l_add (by rfl) T.mg_l_add T.F_l_add.kp B_l_add .nil pass0 (pa_cons (pv 5) (pa_cons (pe_ix ix_list (pv 1) (pv 7) (fun _ _ => rfl)) (pa_cons (pv 8) (pa_cons (pe_op op_add pe_int (pv 9)) pa_nil)))))))))))
      (pss_cons (ps_set (i := 12) sc_law.nd rfl (by first | exact Or.inl rfl | exact Or.inr rfl) (pe_call G_l_due hr_l_due (by rfl) T.mg_l_due T.F_l_due.kp B_l_due .nil pass0 (pa_cons (pv 5) pa_nil)))
      (pss_cons (ps_set (i := 13) sc_law.nd rfl (by first | exact Or.inl rfl | exact Or.inr rfl) (pe_callTy call_list_of (by rfl) T.no_list (by decide +kernel) (pa_cons (pv 4) pa_nil)))
      (pss_cons (ps_set (i := 14) sc_law.nd rfl (by first | exact Or.inl rfl | exact Or.inr rfl) (pe_ifExp (pt_cmpR op_eq (pv 3) pe_int (nomark _)) (pe_make T.mk_Purse G_Purse_init hr1_Purse_init (by rfl) T.mg_Purse B_Purse_init_1 D_Purse_init_1 pass0 (pa_cons (pe_callTy call_tuple_of (by rfl) T.no_tuple (by decide +kernel) (pa_cons (pv 13) pa_nil)) pa_nil)) (pe_make T.mk_Purse G_Purse_init hr1_Purse_init (by rfl) T.mg_Purse B_Purse_init_1 D_Purse_init_1 pass0 (pa_cons (pv 13) pa_nil))))
      (pss_cons (ps_expr (pe_bm PySem.F.plainAttrs_list PySem.F.slot_list_append PySem.F.type_list_append mt_append (pv 13) (pa_cons (pe_tup (pa_cons (pe_ix ix_list (pv 1) pe_int (fun _ _ => rfl)) (pa_cons (pe_make T.mk_Part G_Part_init hr1_Part_init (by rfl) T.mg_Part B_Part_init_2 D_Part_init_2 pass0 (pa_cons pe_int (pa_cons pe_int pa_nil))) pa_nil))) pa_nil)))
      (pss_cons (ps_expr (pe_bm PySem.F.plainAttrs_list PySem.F.slot_list_pop PySem.F.type_list_pop mt_popAt (pv 13) (pa_cons pe_int pa_nil)))
      (pss_cons (ps_if (PW.pt (pw_or (pt_cmpR (op_neD hr.units) (pe_call G_l_told hr_l_told (by rfl) T.mg_l_told T.F_l_told.kp B_l_told .nil pass0 (pa_cons (pv 14) pa_nil)) (pv 12) (nomark _)) (pw_or1 (pt_not (pt_val (pe_callG G_l_same hgd hr_l_same (by rfl) T.mg_l_same T.F_l_same.kp B_l_same pass0 (pa_cons (pe_callB (call_len_own G_Purse_len hr1_Purse_len B_Purse_len pass0 T.m_Purse_len.at_ T.m_Purse_len.fn) (by rfl) T.no_len (by decide +kernel) (pa_cons (pv 14) pa_nil)) (pa_cons (pe_callB call_len_seq (by rfl) T.no_len (by decide +kernel) (pa_cons (pv 12) pa_nil)) pa_nil)))))))) (pss_one (ps_ret pe_bl)) pss_nil)
      (pss_cons (ps_expr (pe_bm PySem.F.plainAttrs_list PySem.F.slot_list_append PySem.F.type_list_append mt_append (pe_meth0 (pv 14) T.cl_Purse T.m_Purse_coins G_Purse_coins hr_Purse_coins B_Purse_coins .nil pass0) (pa_cons pe_str pa_nil)))
      (pss_cons (ps_for PassesOwn.never rfl (pi_list (pv 1)) (pg_name (i := 15) sc_law.nd rfl (by first | exact Or.inl rfl | exact Or.inr rfl))
        (pss_cons (ps_set (i := 16) sc_law.nd rfl (by first | exact Or.inl rfl | exact Or.inr rfl) (pe_meth (pv 14) T.cl_Purse T.m_Purse_at G_Purse_at hr_Purse_at B_Purse_at .nil pass0 (pa_cons (pv 15) pa_nil)))
        (pss_cons (ps_set (i := 17) sc_law.nd rfl (by first | exact Or.inl rfl | exact Or.inr rfl) (pe_ifExp (pt_cmp (pc_din hu (pv 15) (pv 5))) (pe_dget hu (pv 5) (pv 15) (fun _ _ => rfl)) (pe_tup (pa_cons pe_int (pa_cons pe_int pa_nil)))))
        (pss_one (ps_if (PW.pt (pw_or (pt_not (pt_val (pe_callB call_isi (by rfl) T.no_isinstance (by decide +kernel) (pa_cons (pv 16) (pa_cons (pe_glob (v := V.ref a.C_Part) rfl T.mg_Part rfl) pa_nil))))) (pw_or1 (pt_not (pt_val (pe_callG G_l_same hgd hr_l_same (by rfl) T.mg_l_same T.F_l_same.kp B_l_same pass0 (pa_cons (pe_tup (pa_cons (pe_fld (pv 16) rfl) (pa_cons (pe_fld (pv 16) rfl) pa_nil))) (pa_cons (pv 17) pa_nil)))))))) (pss_one (ps_ret pe_bl)) pss_nil)))))
      (pss_cons (ps_set (i := 18) sc_law.nd rfl (by first | exact Or.inl rfl | exact Or.inr rfl) (pe_lst pa_nil))
      (pss_cons (ps_for PassesOwn.never rfl (pi_list (pv 12)) (pg_tup rfl (pgs_cons (pg_name (i := 19) sc_law.nd rfl (by first | exact Or.inl rfl | exact Or.inr rfl)) (pgs_cons (pg_name (i := 8) sc_law.nd rfl (by first | exact Or.inl rfl | exact Or.inr rfl)) (pgs_cons (pg_name (i := 9) sc_law.nd rfl (by first | exact Or.inl rfl | exact Or.inr rfl)) pgs_nil))) (by rfl))
        (pss_one (ps_expr (pe_bm PySem.F.plainAttrs_list PySem.F.slot_list_append PySem.F.type_list_append mt_append (pv 18) (pa_cons (pe_op op_add_str (pe_op op_add_str (pe_ifExp (pt_cmpR op_eq (pv 9) pe_int (nomark _)) (pe_callTy call_str_int (by rfl) T.no_str (by decide +kernel) (pa_cons (pv 8) pa_nil)) (pe_op op_add_str (pe_op op_add_str (pe_callTy call_str_int (by rfl) T.no_str (by decide +kernel) (pa_cons (pv 8) pa_nil)) pe_str) (pe_callTy call_str_int (by rfl) T.no_str (by decide +kernel) (pa_cons (pv 9) pa_nil)))) pe_str) (pv 19)) pa_nil)))))
      (pss_cons (ps_if (PW.pt (pw_or (pt_not (pt_val (pe_callG G_l_same hgd hr_l_same (by rfl) T.mg_l_same T.F_l_same.kp B_l_same pass0 (pa_cons (pe_callB (call_repr_own G_Purse_repr hr1_Purse_repr B_Purse_repr pass0 T.m_Purse_repr.at_ T.m_Purse_repr.fn) (by rfl) T.no_repr (by decide +kernel) (pa_cons (pv 14) pa_nil)) (pa_cons (pe_ifExp (pt_cmpR (op_eqD hr.units) (pv 12) (pe_lst pa_nil) (nomark _)) pe_str (pe_joinN pe_str (pv 18))) pa_nil))))) (pw_or1 (pt_cmpR (op_neD hr.units) (pe_call G_l_told hr_l_told (by rfl) T.mg_l_told T.F_l_told.kp B_l_told .nil pass0 (pa_cons (pv 14) pa_nil)) (pv 12) (nomark _))))) (pss_one (ps_ret pe_bl)) pss_nil)
      (pss_cons (ps_set (i := 20) sc_law.nd rfl (by first | exact Or.inl rfl | exact Or.inr rfl) (pe_make T.mk_Purse G_Purse_init hr1_Purse_init (by rfl) T.mg_Purse B_Purse_init_1 D_Purse_init_1 pass0 (pa_cons (pe_revL (pv 4)) pa_nil)))
      (pss_cons (ps_set (i := 21) sc_law.nd rfl (by first | exact Or.inl rfl | exact Or.inr rfl) (pe_make T.mk_Purse G_Purse_init hr1_Purse_init (by rfl) T.mg_Purse B_Purse_init_1 D_Purse_init_1 pass0 (pa_cons (pe_op op_cat (pv 4) (pe_lst (pa_cons (pe_tup (pa_cons (pe_ix ix_list (pv 1) pe_int (fun _ _ => rfl)) (pa_cons (pe_make T.mk_Part G_Part_init hr1_Part_init (by rfl) T.mg_Part B_Part_init_2 D_Part_init_2 pass0 (pa_cons pe_int (pa_cons pe_int pa_nil))) pa_nil))) pa_nil))) pa_nil)))
      (pss_cons (ps_if (PW.pt (pw_or (pt_not (pt_cmpR (op_eq_own G_Purse_eq hr_Purse_eq B_Purse_eq pass0 T.m_Purse_eq.at_ T.m_Purse_eq.fn) (pv 14) (pv 20) (nomark _))) (pw_or (pt_cmpR (op_eq_own G_Purse_eq hr_Purse_eq B_Purse_eq pass0 T.m_Purse_eq.at_ T.m_Purse_eq.fn) (pv 14) (pv 21) (nomark _)) (pw_or (pt_cmpR (op_eq_own G_Purse_eq hr_Purse_eq B_Purse_eq pass0 T.m_Purse_eq.at_ T.m_Purse_eq.fn) (pv 14) (pv 12) (nomark _)) (pw_or (pt_cmpR (op_eq_own G_Purse_eq hr_Purse_eq B_Purse_eq pass0 T.m_Purse_eq.at_ T.m_Purse_eq.fn) (pv 14) (pe_callB (call_repr_own G_Purse_repr hr1_Purse_repr B_Purse_repr pass0 T.m_Purse_repr.at_ T.m_Purse_repr.fn) (by rfl) T.no_repr (by decide +kernel) (pa_cons (pv 14) pa_nil)) (nomark _)) (pw_or1 (pt_cmpR (op_eq_own G_Purse_eq hr_Purse_eq B_Purse_eq pass0 T.m_Purse_eq.at_ T.m_Purse_eq.fn) (pv 14) (pe_make T.mk_Part G_Part_init hr1_Part_init (by rfl) T.mg_Part B_Part_init_1 D_Part_init_1 pass0 (pa_cons pe_int pa_nil)) (nomark _)))))))) (pss_one (ps_ret pe_bl)) pss_nil)
      (pss_one (ps_ret (pe_and (pe_cmpR (op_eq_own G_Purse_eq hr_Purse_eq B_Purse_eq pass0 T.m_Purse_eq.at_ T.m_Purse_eq.fn) (pe_make0 T.mk_Purse G_Purse_init hr1_Purse_init (by rfl) T.mg_Purse B_Purse_init_0 D_Purse_init_0 pass0) (pe_make T.mk_Purse G_Purse_init hr1_Purse_init (by rfl) T.mg_Purse B_Purse_init_1 D_Purse_init_1 pass0 (pa_cons (pe_tup pa_nil) pa_nil)) (nomark _)) (pe_and (pe_cmpR (op_eq_own G_Purse_eq hr_Purse_eq B_Purse_eq pass0 T.m_Purse_eq.at_ T.m_Purse_eq.fn) (pe_make T.mk_Purse G_Purse_init hr1_Purse_init (by rfl) T.mg_Purse B_Purse_init_1 D_Purse_init_1 pass0 (pa_cons (pe_lst pa_nil) pa_nil)) (pe_make0 T.mk_Purse G_Purse_init hr1_Purse_init (by rfl) T.mg_Purse B_Purse_init_0 D_Purse_init_0 pass0) (nomark _)) (pe_one (pe_cmpR op_eq (pe_cmpR (op_eq_own G_Purse_eq hr_Purse_eq B_Purse_eq pass0 T.m_Purse_eq.at_ T.m_Purse_eq.fn) (pv 14) (pe_make0 T.mk_Purse G_Purse_init hr1_Purse_init (by rfl) T.mg_Purse B_Purse_init_0 D_Purse_init_0 pass0) (nomark _)) (pe_cmpR (op_eqD hr.units) (pv 12) (pe_lst pa_nil) (nomark _)) (nomark _)))))))))))))))))))))))))), ?_⟩
    show tSeq _ _ _ [some (V.ref l), none, none, none, none, none, none, none, none, none, none, none, none, none, none, none, none, none, none, none, none, none] H
    have hz16 : sizeLine = 16777216 := rfl
    refine seq_i fun N hN => ?_
    simp only [tDNewK, tDIn, tDNotIn, tDGet, sDPut, rIxL, rIxT, rEq, rNe, rIsi, sFld, rSlL, rIn, rEqD, tYes, tCallN, tSeq, tIfS, tOp, tVar, tC, tCB, tCons, tNil, rI0, rI, tTest, tRet, tRetN, tNext, tAsg, gName, gNil, gCons, gTup, gUnl, tLst, tTup, tCall, tMeth, tMake, tUn, rU, tAndV, tOrV, tNotV, tAnd, tOr, tNot, tIf, tB, tFld, tDrop, tPar, tNever, tBM, rAppend, tSl, tPart, tNoPart, tM1, tyLst, List.getElem?_cons_zero, List.getElem?_cons_succ, Option.some.injEq, exists_eq_left', exists_eq_left, V.int.injEq, V.bl.injEq, V.str.injEq, V.ref.injEq, List.set_cons_zero, List.set_cons_succ, exists_and_left, exists_and_right, and_assoc, List.cons.injEq, and_true, true_and, List.cons_append, List.nil_append, List.append_nil, List.length_cons, List.length_nil, exists_eq', exists_eq, exists_const, exists_eq_right, exists_eq_right', cxK, Cx.nox, Cx.wish]
    refine ⟨_, hs, fun p0 hp0 => ?_⟩
    obtain ⟨ms, em, hm⟩ := cut_ints ns none (some 63)
    rw [em]
    generalize hH0 : upd H p0 _ = H0
    obtain ⟨_, f0⟩ := alloc hp0 hH0
    clear hH0
    refine hN _ _ ?_
    clear hN N
    have s0 : SqL K H0 p0 (ms.map V.int) := ofL f0
    refine seq_i fun N hN => ?_
    simp only [tDNewK, tDIn, tDNotIn, tDGet, sDPut, rIxL, rIxT, rEq, rNe, rIsi, sFld, rSlL, rIn, rEqD, tYes, tCallN, tSeq, tIfS, tOp, tVar, tC, tCB, tCons, tNil, rI0, rI, tTest, tRet, tRetN, tNext, tAsg, gName, gNil, gCons, gTup, gUnl, tLst, tTup, tCall, tMeth, tMake, tUn, rU, tAndV, tOrV, tNotV, tAnd, tOr, tNot, tIf, tB, tFld, tDrop, tPar, tNever, tBM, rAppend, tSl, tPart, tNoPart, tM1, tyLst, List.getElem?_cons_zero, List.getElem?_cons_succ, Option.some.injEq, exists_eq_left', exists_eq_left, V.int.injEq, V.bl.injEq, V.str.injEq, V.ref.injEq, List.set_cons_zero, List.set_cons_succ, exists_and_left, exists_and_right, and_assoc, List.cons.injEq, and_true, true_and, List.cons_append, List.nil_append, List.append_nil, List.length_cons, List.length_nil, exists_eq', exists_eq, exists_const, exists_eq_right, exists_eq_right', cxK, Cx.nox, Cx.wish]
    refine ⟨p0, ms, 0, 4, rfl, s0, by omega, by decide, by decide, by decide, by decide, fun zs pn H1 hzs hzl e1 f1 _ => ?_⟩
    refine hN _ _ ?_
    clear hN N
    have s1 := seqL s0 e1
    have n1 : SqL K H1 pn (zs.map V.str) := ofL f1
    have hzl : zs.length = 4 := by omega
    clear s0 f0 e1 f1 hp0 em hs
    -- many, way
    refine seq_i fun N hN => ?_
    simp only [tDNewK, tDIn, tDNotIn, tDGet, sDPut, rIxL, rIxT, rEq, rNe, rIsi, sFld, rSlL, rIn, rEqD, tYes, tCallN, tSeq, tIfS, tOp, tVar, tC, tCB, tCons, tNil, rI0, rI, tTest, tRet, tRetN, tNext, tAsg, gName, gNil, gCons, gTup, gUnl, tLst, tTup, tCall, tMeth, tMake, tUn, rU, tAndV, tOrV, tNotV, tAnd, tOr, tNot, tIf, tB, tFld, tDrop, tPar, tNever, tBM, rAppend, tSl, tPart, tNoPart, tM1, tyLst, List.getElem?_cons_zero, List.getElem?_cons_succ, Option.some.injEq, exists_eq_left', exists_eq_left, V.int.injEq, V.bl.injEq, V.str.injEq, V.ref.injEq, List.set_cons_zero, List.set_cons_succ, exists_and_left, exists_and_right, and_assoc, List.cons.injEq, and_true, true_and, List.cons_append, List.nil_append, List.append_nil, List.length_cons, List.length_nil, exists_eq', exists_eq, exists_const, exists_eq_right, exists_eq_right', cxK, Cx.nox, Cx.wish]
    refine ⟨by decide, fun pz hpz => ?_⟩
    generalize hE : upd H1 pz _ = H2
    obtain ⟨e2, f2⟩ := alloc hpz hE
    refine ⟨p0, pz, ms, [9, 3], 2, rfl, seqL s1 e2, by omega, by omega, by omega, ofL f2, (by decide), (by decide), fun ds pd hd hpd => ?_⟩
    obtain ⟨many, way, rfl, ⟨a0, a1⟩, ⟨b0, b1⟩⟩ := drawn2 hd
    generalize hE2 : upd H2 pd _ = H3
    obtain ⟨e3, f3⟩ := alloc hpd hE2
    refine ⟨pd, rfl, _, ofL f3, rfl, ?_⟩
    simp only [List.map_cons, List.map_nil, tDNewK, tDIn, tDNotIn, tDGet, sDPut, rIxL, rIxT, rEq, rNe, rIsi, sFld, rSlL, rIn, rEqD, tYes, tCallN, tSeq, tIfS, tOp, tVar, tC, tCB, tCons, tNil, rI0, rI, tTest, tRet, tRetN, tNext, tAsg, gName, gNil, gCons, gTup, gUnl, tLst, tTup, tCall, tMeth, tMake, tUn, rU, tAndV, tOrV, tNotV, tAnd, tOr, tNot, tIf, tB, tFld, tDrop, tPar, tNever, tBM, rAppend, tSl, tPart, tNoPart, tM1, tyLst, List.getElem?_cons_zero, List.getElem?_cons_succ, Option.some.injEq, exists_eq_left', exists_eq_left, V.int.injEq, V.bl.injEq, V.str.injEq, V.ref.injEq, List.set_cons_zero, List.set_cons_succ, exists_and_left, exists_and_right, and_assoc, List.cons.injEq, and_true, true_and, List.cons_append, List.nil_append, List.append_nil, List.length_cons, List.length_nil, exists_eq', exists_eq, exists_const, exists_eq_right, exists_eq_right', cxK, Cx.nox, Cx.wish]
    refine hN _ _ ?_
    clear hN N
    have s3 := seqL s1 (e2.trans e3)
    have n3 := seqL n1 (e2.trans e3)
    clear hE hE2 e2 e3 f2 f3 hpz hpd hd s1 n1
    -- rows, bag
    refine seq_i fun N hN => ?_
    simp only [tDNewK, tDIn, tDNotIn, tDGet, sDPut, rIxL, rIxT, rEq, rNe, rIsi, sFld, rSlL, rIn, rEqD, tYes, tCallN, tSeq, tIfS, tOp, tVar, tC, tCB, tCons, tNil, rI0, rI, tTest, tRet, tRetN, tNext, tAsg, gName, gNil, gCons, gTup, gUnl, tLst, tTup, tCall, tMeth, tMake, tUn, rU, tAndV, tOrV, tNotV, tAnd, tOr, tNot, tIf, tB, tFld, tDrop, tPar, tNever, tBM, rAppend, tSl, tPart, tNoPart, tM1, tyLst, List.getElem?_cons_zero, List.getElem?_cons_succ, Option.some.injEq, exists_eq_left', exists_eq_left, V.int.injEq, V.bl.injEq, V.str.injEq, V.ref.injEq, List.set_cons_zero, List.set_cons_succ, exists_and_left, exists_and_right, and_assoc, List.cons.injEq, and_true, true_and, List.cons_append, List.nil_append, List.append_nil, List.length_cons, List.length_nil, exists_eq', exists_eq, exists_const, exists_eq_right, exists_eq_right', cxK, Cx.nox, Cx.wish]
    refine ⟨by decide, fun pr hpr => ?_⟩
    generalize hE : upd H3 pr _ = H4
    obtain ⟨e4, f4⟩ := alloc hpr hE
    intro pb hpb
    generalize hE2 : upd H4 pb _ = H5
    obtain ⟨e5, f5⟩ := alloc hpb hE2
    refine hN _ _ ?_
    clear hN N hE hE2
    have hpb3 : H3 pb = none := none_back e4 hpb
    have up40 : (2 : Nat) ^ 24 ≤ 2 ^ 4000 := Nat.pow_le_pow_right (by decide) (by decide)
    have up10 : (2 : Nat) ^ 24 ≤ 2 ^ 1000 := Nat.pow_le_pow_right (by decide) (by decide)
    refine seq_i fun N hN => ?_
    refine tFor_i (J := Itr 0 many.toNat) (H1 := H5) (fun R r => ⟨_, rfl, _, rfl, by omega, by omega, r⟩) walk_range (fun i σ H' => (∃ v6 v7 v8 v9 v10 v11, σ = [some (V.ref p0), some (V.ref pn), some (V.int many), some (V.int way), some (V.ref pr), some (V.ref pb), v6, v7, v8, v9, v10, v11, none, none, none, none, none, none, none, none, none, none]) ∧ Ext H3 H' ∧ ∃ ts rs es, H' pr = some (.lst (ts.map V.ref)) ∧ ts.length = i ∧ Paired (RowP a.C_Part H') ts rs ∧ BagG H' pb es ∧ Bg es zs i (25 * i) ∧ (∀ e ∈ rs, Sz e.2 24 ∧ e.1 ∈ zs) ∧ ∀ n, val es n = val rs n)
      ⟨⟨_, _, _, _, _, _, rfl⟩, e4.trans e5, [], [], [], e5 _ _ f4, rfl, .nil, ⟨[], f5, .nil⟩, Bg.nil, fun e he => absurd he List.not_mem_nil, fun n => rfl⟩ (fun _ _ _ _ _ => trivial) ?_ ?_
    · rintro i x σ H6 H7 hi ⟨⟨v6, v7, v8, v9, v10, v11, rfl⟩, e6, ts, rs, es, f6, hl, hT, hB, hG, hrs, hval⟩ ⟨rfl, rfl⟩
      clear hN
      show tSeq _ _ _ [some (V.ref p0), some (V.ref pn), some (V.int many), some (V.int way), some (V.ref pr), some (V.ref pb), some (V.int (0 + (i : Int))), v7, v8, v9, v10, v11, none, none, none, none, none, none, none, none, none, none] H7
      refine seq_i fun N2 hN2 => ?_
      simp only [tDNewK, tDIn, tDNotIn, tDGet, sDPut, rIxL, rIxT, rEq, rNe, rIsi, sFld, rSlL, rIn, rEqD, tYes, tCallN, tSeq, tIfS, tOp, tVar, tC, tCB, tCons, tNil, rI0, rI, tTest, tRet, tRetN, tNext, tAsg, gName, gNil, gCons, gTup, gUnl, tLst, tTup, tCall, tMeth, tMake, tUn, rU, tAndV, tOrV, tNotV, tAnd, tOr, tNot, tIf, tB, tFld, tDrop, tPar, tNever, tBM, rAppend, tSl, tPart, tNoPart, tM1, tyLst, List.getElem?_cons_zero, List.getElem?_cons_succ, Option.some.injEq, exists_eq_left', exists_eq_left, V.int.injEq, V.bl.injEq, V.str.injEq, V.ref.injEq, List.set_cons_zero, List.set_cons_succ, exists_and_left, exists_and_right, and_assoc, List.cons.injEq, and_true, true_and, List.cons_append, List.nil_append, List.append_nil, List.length_cons, List.length_nil, exists_eq', exists_eq, exists_const, exists_eq_right, exists_eq_right', cxK, Cx.nox, Cx.wish]
      refine ⟨by decide, fun pz hpz => ?_⟩
      generalize hE : upd H7 pz _ = H8
      obtain ⟨e8, f8⟩ := alloc hpz hE
      refine ⟨p0, pz, ms, [4, 60, 12, 4], 3 + (0 + (i : Int)), rfl, seqL s3 (e6.trans e8), by omega, by omega, by omega, ofL f8, (by decide), (by decide), fun ds pd hd hpd => ?_⟩
      obtain ⟨which, top, low, turn, rfl, ⟨w0, w1⟩, ⟨t0, t1⟩, ⟨l0, l1⟩, ⟨u0, u1⟩⟩ := drawn4 hd
      generalize hE2 : upd H8 pd _ = H9
      obtain ⟨e9, f9⟩ := alloc hpd hE2
      refine ⟨pd, rfl, _, ofL f9, rfl, ?_⟩
      simp only [List.map_cons, List.map_nil, tDNewK, tDIn, tDNotIn, tDGet, sDPut, rIxL, rIxT, rEq, rNe, rIsi, sFld, rSlL, rIn, rEqD, tYes, tCallN, tSeq, tIfS, tOp, tVar, tC, tCB, tCons, tNil, rI0, rI, tTest, tRet, tRetN, tNext, tAsg, gName, gNil, gCons, gTup, gUnl, tLst, tTup, tCall, tMeth, tMake, tUn, rU, tAndV, tOrV, tNotV, tAnd, tOr, tNot, tIf, tB, tFld, tDrop, tPar, tNever, tBM, rAppend, tSl, tPart, tNoPart, tM1, tyLst, List.getElem?_cons_zero, List.getElem?_cons_succ, Option.some.injEq, exists_eq_left', exists_eq_left, V.int.injEq, V.bl.injEq, V.str.injEq, V.ref.injEq, List.set_cons_zero, List.set_cons_succ, exists_and_left, exists_and_right, and_assoc, List.cons.injEq, and_true, true_and, List.cons_append, List.nil_append, List.append_nil, List.length_cons, List.length_nil, exists_eq', exists_eq, exists_const, exists_eq_right, exists_eq_right', cxK, Cx.nox, Cx.wish]
      refine hN2 _ _ ?_
      clear hN2 N2 hE hE2
      have e79 := e8.trans e9
      clear hpz hpd f8 f9 hd e8 e9
      refine seq_i fun N2 hN2 => ?_
      have merge : ∀ (which top low : Int) (v11 : Option V) (H9 : Hp), Ext H7 H9 → 0 ≤ which → which < 4 → top.natAbs < 2 ^ 24 → (1 + low).natAbs < 2 ^ 24 → 1 + low ≠ 0 →
          N2 [some (V.ref p0), some (V.ref pn), some (V.int many), some (V.int way), some (V.ref pr), some (V.ref pb), some (V.int (0 + (i : Int))), some (V.int which), some (V.int top), some (V.int low), some (V.int turn), v11, none, none, none, none, none, none, none, none, none, none] H9 := by
        clear w0 w1 t0 t1 l0 l1 u0 u1 e79 H9 which top low
        intro which top low v11 H9 e79 w0 w1 ht hlb hl0
        refine hN2 _ _ ?_
        clear hN2 N2
        refine seq_i fun N2 hN2 => ?_
        simp only [tDNewK, tDIn, tDNotIn, tDGet, sDPut, rIxL, rIxT, rEq, rNe, rIsi, sFld, rSlL, rIn, rEqD, tYes, tCallN, tSeq, tIfS, tOp, tVar, tC, tCB, tCons, tNil, rI0, rI, tTest, tRet, tRetN, tNext, tAsg, gName, gNil, gCons, gTup, gUnl, tLst, tTup, tCall, tMeth, tMake, tUn, rU, tAndV, tOrV, tNotV, tAnd, tOr, tNot, tIf, tB, tFld, tDrop, tPar, tNever, tBM, rAppend, tSl, tPart, tNoPart, tM1, tyLst, List.getElem?_cons_zero, List.getElem?_cons_succ, Option.some.injEq, exists_eq_left', exists_eq_left, V.int.injEq, V.bl.injEq, V.str.injEq, V.ref.injEq, List.set_cons_zero, List.set_cons_succ, exists_and_left, exists_and_right, and_assoc, List.cons.injEq, and_true, true_and, List.cons_append, List.nil_append, List.append_nil, List.length_cons, List.length_nil, exists_eq', exists_eq, exists_const, exists_eq_right, exists_eq_right', cxK, Cx.nox, Cx.wish]
        obtain ⟨z, hzm, hat⟩ := str_at (zs := zs) (k := which) (by omega) (by omega)
        have e39 := e6.trans e79
        refine ⟨tyLst (e79 _ _ f6), _, seqL n3 e39, _, hat, fun x dx hx hdx _ => ?_⟩
        refine mk_partR (t := top) (l := 1 + low) hx hdx hl0 (Nat.lt_of_lt_of_le ht up40) (Nat.lt_of_lt_of_le hlb up40) fun H10 e10 P10 => ⟨rfl, by decide, fun pt hpt => ?_⟩
        generalize hE : upd H10 pt _ = H11
        obtain ⟨e11, f11⟩ := alloc hpt hE
        have e711 := e79.trans (e10.trans e11)
        have g11 := e711 _ _ f6
        refine ⟨_, g11, by rw [List.length_map]; omega, hN2 _ _ ?_⟩
        clear hN2 N2 hE
        have o12 : Off pr H11 (upd H11 pr (.lst (ts.map V.ref ++ [V.ref pt]))) := Off.upd
        have e12 : Ext H3 (upd H11 pr (.lst (ts.map V.ref ++ [V.ref pt]))) := upd_ext (e6.trans e711) hpr
        have f12 : (upd H11 pr (.lst (ts.map V.ref ++ [V.ref pt]))) pr = some (.lst ((ts ++ [pt]).map V.ref)) := by rw [upd_same, List.map_append]; rfl
        have hx24 : Sz (Rat.divInt top (1 + low)) 24 := Sz.of hl0 ht hlb
        have hT12 : Paired (RowP a.C_Part (upd H11 pr (.lst (ts.map V.ref ++ [V.ref pt])))) (ts ++ [pt]) (rs ++ [(z, Rat.divInt top (1 + low))]) := rowP_offL (Paired.snoc (rowP_ext hT e711) ⟨x, f11, P10.ext e11⟩) g11 o12
        have hB12 := (hB.ext e711).offL g11 o12
        generalize upd H11 pr (.lst (ts.map V.ref ++ [V.ref pt])) = H12 at e12 f12 hT12 hB12 ⊢
        clear o12 g11 f11 hpt P10 e10 e11 e711 hx hdx
        simp only [tDNewK, tDIn, tDNotIn, tDGet, sDPut, rIxL, rIxT, rEq, rNe, rIsi, sFld, rSlL, rIn, rEqD, tYes, tCallN, tSeq, tIfS, tOp, tVar, tC, tCB, tCons, tNil, rI0, rI, tTest, tRet, tRetN, tNext, tAsg, gName, gNil, gCons, gTup, gUnl, tLst, tTup, tCall, tMeth, tMake, tUn, rU, tAndV, tOrV, tNotV, tAnd, tOr, tNot, tIf, tB, tFld, tDrop, tPar, tNever, tBM, rAppend, tSl, tPart, tNoPart, tM1, tyLst, List.getElem?_cons_zero, List.getElem?_cons_succ, Option.some.injEq, exists_eq_left', exists_eq_left, V.int.injEq, V.bl.injEq, V.str.injEq, V.ref.injEq, List.set_cons_zero, List.set_cons_succ, exists_and_left, exists_and_right, and_assoc, List.cons.injEq, and_true, true_and, List.cons_append, List.nil_append, List.append_nil, List.length_cons, List.length_nil, exists_eq', exists_eq, exists_const, exists_eq_right, exists_eq_right', cxK, Cx.nox, Cx.wish]
        refine ⟨_, seqL n3 e12, _, hat, pb, z, top, 1 + low, es, rfl, hB12, by have := hG.ln; omega, hG.nd, hl0, Nat.lt_of_lt_of_le ht up10, Nat.lt_of_lt_of_le hlb up10, fun e he => (hG.sz e he).mono (by omega), fun H13 off hB13 => ?_⟩
        obtain ⟨kb, hkb, _⟩ := hB12
        have hne : pr ≠ pb := fun z => by rw [z, hkb] at f12; cases f12
        refine ⟨Off.ext_new e12 hpb3 off, ts ++ [pt], off _ _ f12 hne, by rw [List.length_append, hl]; rfl, rs ++ [(z, Rat.divInt top (1 + low))], rowP_off hT12 hkb off, _, hB13, ?_, ?_, ?_⟩
        · exact (hG.add hzm hx24).mono (Nat.le_refl _) (by omega)
        · intro e he
          rcases List.mem_append.mp he with h | h
          · exact hrs e h
          · rw [List.mem_singleton.mp h]
            exact ⟨hx24, hzm⟩
        · intro n
          rw [val_addR, val_append, hval]
          show _ = val rs n + val (addR [] z _) n
          rw [val_addR]
          show _ = val rs n + (0 + _)
          rw [Rat.zero_add]
      simp only [rNeNil, rIndex, tDNewK, tDIn, tDNotIn, tDGet, sDPut, rIxL, rIxT, rEq, rNe, rIsi, sFld, rSlL, rIn, rEqD, tYes, tCallN, tSeq, tIfS, tOp, tVar, tC, tCB, tCons, tNil, rI0, rI, tTest, tRet, tRetN, tNext, tAsg, gName, gNil, gCons, gTup, gUnl, tLst, tTup, tCall, tMeth, tMake, tUn, rU, tAndV, tOrV, tNotV, tAnd, tOr, tNot, tIf, tB, tFld, tDrop, tPar, tNever, tBM, rAppend, tSl, tPart, tNoPart, tM1, tyLst, List.getElem?_cons_zero, List.getElem?_cons_succ, Option.some.injEq, exists_eq_left', exists_eq_left, V.int.injEq, V.bl.injEq, V.str.injEq, V.ref.injEq, List.set_cons_zero, List.set_cons_succ, exists_and_left, exists_and_right, and_assoc, List.cons.injEq, and_true, true_and, List.cons_append, List.nil_append, List.append_nil, List.length_cons, List.length_nil, exists_eq', exists_eq, exists_const, exists_eq_right, exists_eq_right', cxK, Cx.nox, Cx.wish]
      have htop : top.natAbs < 2 ^ 24 := by omega
      have hlow : (1 + low).natAbs < 2 ^ 24 := by omega
      refine ⟨rfl, ite2 (fun _ => ?_) (fun _ => iteF (merge _ _ _ _ _ e79 w0 w1 htop hlow (by omega)))⟩
      refine ⟨by decide, fun pe hpe => ?_⟩
      generalize hE : upd H9 pe _ = H10
      obtain ⟨e10, f10⟩ := alloc hpe hE
      have e710 := e79.trans e10
      have g10 := e710 _ _ f6
      refine ⟨_, ofL g10, ofL f10, ?_⟩
      cases hlt : ts.getLast? with
      | none =>
        rw [List.getLast?_eq_none_iff] at hlt
        subst hlt
        exact iteF (merge _ _ _ _ _ e710 w0 w1 htop hlow (by omega))
      | some t =>
        have hne : ts ≠ [] := fun z => by rw [z] at hlt; cases hlt
        rw [show (ts.map V.ref).isEmpty = false by cases ts with | nil => exact absurd rfl hne | cons _ _ => rfl]
        refine iteT ?_
        obtain ⟨e, hrl, q, h1, h2⟩ : ∃ e, rs.getLast? = some e ∧ RowP a.C_Part H10 t e := by
          have hT10 := rowP_ext hT e710
          rw [List.getLast?_eq_getElem?] at hlt
          obtain ⟨e, he, hr⟩ := LiI.paired_get hT10 hlt
          refine ⟨e, ?_, hr⟩
          rw [List.getLast?_eq_getElem?, ← Paired.length hT10]
          exact he
        obtain ⟨hsz, hzm⟩ := hrs e (List.mem_of_getLast? hrl)
        obtain ⟨j, hj, hjn⟩ := name_idx hzs.nd hzm
        obtain ⟨dq, h2⟩ := h2
        have ht : H10 t = some (.tup [.str e.1, .ref q]) := h1
        have q0 : atI [V.str e.1, .ref q] 0 = some (V.str e.1) := atI_0
        have q1 : atI [V.str e.1, .ref q] 1 = some (V.ref q) := atI_1
        have hat : atI (ts.map V.ref) (-1) = some (V.ref t) := atI_map (atI_last hlt)
        have hjm : (zs.map V.str)[j]? = some (V.str e.1) := by rw [List.getElem?_map, hj]; rfl
        have hjl : j < zs.length := (List.getElem?_eq_some_iff.mp hj).1
        have hfl : (zs.map V.str).all flatV = true := by
          rw [List.all_eq_true]
          intro v hv
          obtain ⟨z, _, rfl⟩ := List.mem_map.mp hv
          rfl
        refine ⟨_, ofL g10, _, hat, tyLst' (seqL n3 (e6.trans e710)), t, rfl, _, ofT ht, _, q0, _, seqL n3 (e6.trans e710), rfl, hfl, j, _, hjm, by simp [eqV], hjn, t, rfl, _, ofT ht, _, q1, q, rfl, _, _, _, h2, T.cl_Part, T.na_Part_top, _, fsP_top _ _, _, rfl, t, rfl, _, ofT ht, _, q1, q, rfl, _, _, _, h2, T.cl_Part, T.na_Part_low, _, fsP_low _ _, _, rfl, ?_⟩
        have hn := hsz.n
        have hd := hsz.d
        have hd0 := e.2.den_pos
        exact merge _ _ _ _ _ e710 (by omega) (by omega) (by rw [Int.zero_sub, Int.natAbs_neg]; exact hn) (by rw [show (1 : Int) + ((e.2.den : Int) - 1) = (e.2.den : Int) by omega]; exact hd) (by omega)
    · rintro σ H6 ⟨⟨v6, v7, v8, v9, v10, v11, rfl⟩, e6, ts, rs, es, f6, hl, hT, hB, hG, hrs, hval⟩
      refine hN _ _ ?_
      clear hN N
      have hn8 : many.toNat ≤ 8 := by omega
      generalize many.toNat = nm at hl hG hn8
      have s6 := seqL s3 e6
      have n6 := seqL n3 e6
      have hrl : rs.length = nm := by rw [← hl]; exact (Paired.length hT).symm
      have hl4 : es.length ≤ 8 := Nat.le_trans hG.ln hn8
      have hsz25 : ∀ e ∈ es, Sz e.2 200 := fun e he => (hG.sz e he).mono (by omega)
      clear s3 n3 e6 f4 f5 e4 e5 hpr hpb hpb3
      -- due
      refine seq_i fun N hN => ?_
      simp only [tDNewK, tDIn, tDNotIn, tDGet, sDPut, rIxL, rIxT, rEq, rNe, rIsi, sFld, rSlL, rIn, rEqD, tYes, tCallN, tSeq, tIfS, tOp, tVar, tC, tCB, tCons, tNil, rI0, rI, tTest, tRet, tRetN, tNext, tAsg, gName, gNil, gCons, gTup, gUnl, tLst, tTup, tCall, tMeth, tMake, tUn, rU, tAndV, tOrV, tNotV, tAnd, tOr, tNot, tIf, tB, tFld, tDrop, tPar, tNever, tBM, rAppend, tSl, tPart, tNoPart, tM1, tyLst, List.getElem?_cons_zero, List.getElem?_cons_succ, Option.some.injEq, exists_eq_left', exists_eq_left, V.int.injEq, V.bl.injEq, V.str.injEq, V.ref.injEq, List.set_cons_zero, List.set_cons_succ, exists_and_left, exists_and_right, and_assoc, List.cons.injEq, and_true, true_and, List.cons_append, List.nil_append, List.append_nil, List.length_cons, List.length_nil, exists_eq', exists_eq, exists_const, exists_eq_right, exists_eq_right', cxK, Cx.nox, Cx.wish]
      refine ⟨pb, es, rfl, hB, hG.nd, by omega, fun qd H7 cs e7 hqd hcc hvc h3 => hN _ _ ?_⟩
      clear hN N
      have s7 := seqL s6 e7
      have n7 := seqL n6 e7
      have f7 := e7 _ _ f6
      have hT7 := rowP_ext hT e7
      have hB7 := hB.ext e7
      have hvr : ∀ n, val cs n = val rs n := fun n => by rw [hvc, hval]
      obtain ⟨lcs, scs⟩ := canon_of hcc hG.nd hvc
      clear s6 n6 f6 hT hB e7 hqd
      -- handed
      refine seq_i fun N hN => ?_
      simp only [tDNewK, tDIn, tDNotIn, tDGet, sDPut, rIxL, rIxT, rEq, rNe, rIsi, sFld, rSlL, rIn, rEqD, tYes, tCallN, tSeq, tIfS, tOp, tVar, tC, tCB, tCons, tNil, rI0, rI, tTest, tRet, tRetN, tNext, tAsg, gName, gNil, gCons, gTup, gUnl, tLst, tTup, tCall, tMeth, tMake, tUn, rU, tAndV, tOrV, tNotV, tAnd, tOr, tNot, tIf, tB, tFld, tDrop, tPar, tNever, tBM, rAppend, tSl, tPart, tNoPart, tM1, tyLst, List.getElem?_cons_zero, List.getElem?_cons_succ, Option.some.injEq, exists_eq_left', exists_eq_left, V.int.injEq, V.bl.injEq, V.str.injEq, V.ref.injEq, List.set_cons_zero, List.set_cons_succ, exists_and_left, exists_and_right, and_assoc, List.cons.injEq, and_true, true_and, List.cons_append, List.nil_append, List.append_nil, List.length_cons, List.length_nil, exists_eq', exists_eq, exists_const, exists_eq_right, exists_eq_right', cxK, Cx.nox, Cx.wish]
      refine ⟨_, .inl (ofL f7), fun ph hph => ?_⟩
      generalize hE : upd H7 ph _ = H8
      obtain ⟨e8, f8⟩ := alloc hph hE
      refine hN _ _ ?_
      clear hN N hE
      -- the purse
      refine seq_i fun N hN => ?_
      have hb226 : 1 + rs.length * (24 + 1) ≤ 1000 := by omega
      have merge : ∀ (H9 : Hp) (pu d : Addr) (hs : List (Str × Rat)), Ext H8 H9 → Canon hs → (∀ n, val hs n = val rs n) → PurD a.C_Purse a.C_Part H9 pu d hs →
          N [some (V.ref p0), some (V.ref pn), some (V.int many), some (V.int way), some (V.ref pr), some (V.ref pb), v6, v7, v8, v9, v10, v11, some (V.ref qd), some (V.ref ph), some (V.ref pu), none, none, none, none, none, none, none] H9 := by
        intro H9 pu d hs e9 hch hvh hPU
        refine hN _ _ ?_
        clear hN N
        have heq : hs = cs := hch.eq hcc fun n => by rw [hvh, hvr]
        subst heq
        have e79 := e8.trans e9
        -- the handed list is changed
        refine seq_i fun N hN => ?_
        simp only [tDNewK, tDIn, tDNotIn, tDGet, sDPut, rIxL, rIxT, rEq, rNe, rIsi, sFld, rSlL, rIn, rEqD, tYes, tCallN, tSeq, tIfS, tOp, tVar, tC, tCB, tCons, tNil, rI0, rI, tTest, tRet, tRetN, tNext, tAsg, gName, gNil, gCons, gTup, gUnl, tLst, tTup, tCall, tMeth, tMake, tUn, rU, tAndV, tOrV, tNotV, tAnd, tOr, tNot, tIf, tB, tFld, tDrop, tPar, tNever, tBM, rAppend, tSl, tPart, tNoPart, tM1, tyLst, List.getElem?_cons_zero, List.getElem?_cons_succ, Option.some.injEq, exists_eq_left', exists_eq_left, V.int.injEq, V.bl.injEq, V.str.injEq, V.ref.injEq, List.set_cons_zero, List.set_cons_succ, exists_and_left, exists_and_right, and_assoc, List.cons.injEq, and_true, true_and, List.cons_append, List.nil_append, List.append_nil, List.length_cons, List.length_nil, exists_eq', exists_eq, exists_const, exists_eq_right, exists_eq_right', cxK, Cx.nox, Cx.wish]
        obtain ⟨z0, hz0, hat0⟩ := str_at (zs := zs) (k := 0) (by omega) (by omega)
        refine ⟨tyLst (e9 _ _ f8), _, seqL n7 e79, _, hat0, fun x dx hx hdx _ => ?_⟩
        refine mk_partR (t := 1) (l := 7) hx hdx (by decide) (Nat.lt_of_lt_of_le (show (1 : Int).natAbs < 2 ^ 3 by decide) (Nat.pow_le_pow_right (by decide) (by decide))) (Nat.lt_of_lt_of_le (show (7 : Int).natAbs < 2 ^ 3 by decide) (Nat.pow_le_pow_right (by decide) (by decide))) fun H10 e10 P10 => ⟨rfl, by decide, fun pt hpt => ?_⟩
        generalize hE : upd H10 pt _ = H11
        obtain ⟨e11, f11⟩ := alloc hpt hE
        have e911 := e10.trans e11
        have g11 := e911 _ _ (e9 _ _ f8)
        refine ⟨_, g11, by rw [List.length_map]; omega, hN _ _ ?_⟩
        clear hN N hE
        have o12 : Off ph H11 (upd H11 ph (.lst (ts.map V.ref ++ [V.ref pt]))) := Off.upd
        have hP12 := (hPU.ext e911).offL g11 o12
        have e12 : Ext H7 (upd H11 ph (.lst (ts.map V.ref ++ [V.ref pt]))) := upd_ext (e79.trans e911) hph
        have f12 : (upd H11 ph (.lst (ts.map V.ref ++ [V.ref pt]))) ph = some (.lst (ts.map V.ref ++ [V.ref pt])) := upd_same
        generalize upd H11 ph (.lst (ts.map V.ref ++ [V.ref pt])) = H12 at e12 f12 hP12 ⊢
        clear o12 g11 f11 hpt P10 e10 e11 e911 hx hdx hPU e9 e79
        refine seq_i fun N hN => ?_
        simp only [rPopAt, tDNewK, tDIn, tDNotIn, tDGet, sDPut, rIxL, rIxT, rEq, rNe, rIsi, sFld, rSlL, rIn, rEqD, tYes, tCallN, tSeq, tIfS, tOp, tVar, tC, tCB, tCons, tNil, rI0, rI, tTest, tRet, tRetN, tNext, tAsg, gName, gNil, gCons, gTup, gUnl, tLst, tTup, tCall, tMeth, tMake, tUn, rU, tAndV, tOrV, tNotV, tAnd, tOr, tNot, tIf, tB, tFld, tDrop, tPar, tNever, tBM, rAppend, tSl, tPart, tNoPart, tM1, tyLst, List.getElem?_cons_zero, List.getElem?_cons_succ, Option.some.injEq, exists_eq_left', exists_eq_left, V.int.injEq, V.bl.injEq, V.str.injEq, V.ref.injEq, List.set_cons_zero, List.set_cons_succ, exists_and_left, exists_and_right, and_assoc, List.cons.injEq, and_true, true_and, List.cons_append, List.nil_append, List.append_nil, List.length_cons, List.length_nil, exists_eq', exists_eq, exists_const, exists_eq_right, exists_eq_right', cxK, Cx.nox, Cx.wish]
        refine ⟨tyLst f12, _, f12, by decide, by decide, 0, seq0 (by rw [List.length_append]; show 0 < _ + 1; omega), ⟨_, List.getElem?_eq_getElem (by rw [List.length_append]; show 0 < _ + 1; omega)⟩, hN _ _ ?_⟩
        clear hN N
        have o13 : Off ph H12 (upd H12 ph (.lst ((ts.map V.ref ++ [V.ref pt]).eraseIdx 0))) := Off.upd
        have hP13 := hP12.offL f12 o13
        have e13 := upd_ext (o := .lst ((ts.map V.ref ++ [V.ref pt]).eraseIdx 0)) e12 hph
        generalize upd H12 ph (.lst ((ts.map V.ref ++ [V.ref pt]).eraseIdx 0)) = H13 at o13 hP13 e13 ⊢
        have s13 := seqL s7 e13
        have n13 := seqL n7 e13
        have hT13 := rowP_ext hT7 e13
        have hB13 := hB7.ext e13
        have D13 := h3.ext e13
        have f13 := e13 _ _ f7
        have hcsz : ∀ e ∈ hs, Sz e.2 200 := fun e he => hsz25 e (scs e he)
        have hcnm : ∀ e ∈ hs, e.1 ∈ zs := fun e he => hG.nm e (scs e he)
        have hneat : Neat (.list (hs.map row3D)) := (Mild.rows3 (fun e he => ⟨⟨6, hzs.small (hcnm e he), by decide⟩, (hcsz e he).mono (by decide)⟩) (by omega)).neat (by decide) (by decide)
        clear o13 hP12 e12 f12 e13 s7 n7 hT7 hB7 h3 f7 f8 e8 hph
        have ins : ∀ {H : Hp}, PurD a.C_Purse a.C_Part H pu d hs → ∃ dx fs, H pu = some (.ins a.C_Purse dx fs) ∧ ∀ m : Str, ¬ m = "_held" → fs.lookup m = none := fun h => by
          obtain ⟨dx, kvs, h1, _, _⟩ := h
          exact ⟨dx, _, h1, fun m hm => held_no hm⟩
        -- told, len
        refine seq_i fun N hN => ?_
        simp only [rLenI, tDNewK, tDIn, tDNotIn, tDGet, sDPut, rIxL, rIxT, rEq, rNe, rIsi, sFld, rSlL, rIn, rEqD, tYes, tCallN, tSeq, tIfS, tOp, tVar, tC, tCB, tCons, tNil, rI0, rI, tTest, tRet, tRetN, tNext, tAsg, gName, gNil, gCons, gTup, gUnl, tLst, tTup, tCall, tMeth, tMake, tUn, rU, tAndV, tOrV, tNotV, tAnd, tOr, tNot, tIf, tB, tFld, tDrop, tPar, tNever, tBM, rAppend, tSl, tPart, tNoPart, tM1, tyLst, List.getElem?_cons_zero, List.getElem?_cons_succ, Option.some.injEq, exists_eq_left', exists_eq_left, V.int.injEq, V.bl.injEq, V.str.injEq, V.ref.injEq, List.set_cons_zero, List.set_cons_succ, exists_and_left, exists_and_right, and_assoc, List.cons.injEq, and_true, true_and, List.cons_append, List.nil_append, List.append_nil, List.length_cons, List.length_nil, exists_eq', exists_eq, exists_const, exists_eq_right, exists_eq_right', cxK, Cx.nox, Cx.wish]
        refine ⟨pu, d, hs, rfl, hP13, hch.nd, by omega, fun q1 H14 e14 _ r14 => ?_⟩
        refine ⟨_, _, r14.dp, (D13.ext e14).dp, hneat.shaped, hneat.shaped, ?_⟩
        rw [hneat.refl]
        refine ⟨false, rfl, iteF ?_⟩
        have hP14 := hP13.ext e14
        obtain ⟨dx, fs, i14, no14⟩ := ins hP14
        obtain ⟨ts3, g3, r3⟩ := D13.ext e14
        have l3 := Paired.length r3
        refine ⟨⟨_, _, i14⟩, pu, d, hs, rfl, hP14, hs.length, rfl, by omega, by omega, ?_⟩
        refine ⟨_, .inl (ofL g3), _, _, .int hs.length, rfl, .int _, by rw [List.length_map, l3]; exact .int _, neat_int (by omega), true, rfl, iteF (hN _ _ ?_)⟩
        clear hN N r14
        have s14 := seqL s13 e14
        have n14 := seqL n13 e14
        have hT14 := rowP_ext hT13 e14
        have hB14 := hB13.ext e14
        have D14 := D13.ext e14
        have f14 := e14 _ _ f13
        clear s13 n13 hT13 hB13 D13 f13 hP13 e14 g3 r3 l3
        -- coins
        refine seq_i fun N hN => ?_
        simp only [tDNewK, tDIn, tDNotIn, tDGet, sDPut, rIxL, rIxT, rEq, rNe, rIsi, sFld, rSlL, rIn, rEqD, tYes, tCallN, tSeq, tIfS, tOp, tVar, tC, tCB, tCons, tNil, rI0, rI, tTest, tRet, tRetN, tNext, tAsg, gName, gNil, gCons, gTup, gUnl, tLst, tTup, tCall, tMeth, tMake, tUn, rU, tAndV, tOrV, tNotV, tAnd, tOr, tNot, tIf, tB, tFld, tDrop, tPar, tNever, tBM, rAppend, tSl, tPart, tNoPart, tM1, tyLst, List.getElem?_cons_zero, List.getElem?_cons_succ, Option.some.injEq, exists_eq_left', exists_eq_left, V.int.injEq, V.bl.injEq, V.str.injEq, V.ref.injEq, List.set_cons_zero, List.set_cons_succ, exists_and_left, exists_and_right, and_assoc, List.cons.injEq, and_true, true_and, List.cons_append, List.nil_append, List.append_nil, List.length_cons, List.length_nil, exists_eq', exists_eq, exists_const, exists_eq_right, exists_eq_right', cxK, Cx.nox, Cx.wish]
        refine ⟨_, _, i14, no14 _ (by decide +kernel), pu, d, hs, rfl, hP14, fun qc H15 e15 hqc f15 => ⟨tyLst f15, _, rfl, _, f15, by rw [List.length_map, List.length_map]; omega, hN _ _ ?_⟩⟩
        clear hN N
        have e16 := upd_ext (o := .lst ((hs.map (·.1)).map V.str ++ [V.str (Str.ofString "zz")])) e15 hqc
        generalize upd H15 qc (.lst ((hs.map (·.1)).map V.str ++ [V.str (Str.ofString "zz")])) = H16 at e16 ⊢
        have s16 := seqL s14 e16
        have n16 := seqL n14 e16
        have hT16 := rowP_ext hT14 e16
        have hB16 := hB14.ext e16
        have D16 := D14.ext e16
        have f16 := e16 _ _ f14
        have hP16 := hP14.ext e16
        clear s14 n14 hT14 hB14 D14 f14 hP14 e16 e15 f15 hqc i14 no14 dx fs
        -- at each name
        refine seq_i fun N hN => ?_
        refine tFor_i (J := Itl K pn) (H1 := H16) (fun R r => ⟨_, rfl, pn, rfl, ⟨_, n16⟩, r⟩) (walk_list (K := K) (a := pn) (xs := zs.map V.str))
          (fun t σ H' => (∃ v15 v16 v17, σ = [some (V.ref p0), some (V.ref pn), some (V.int many), some (V.int way), some (V.ref pr), some (V.ref pb), v6, v7, v8, v9, v10, v11, some (V.ref qd), some (V.ref ph), some (V.ref pu), v15, v16, v17, none, none, none, none]) ∧ Ext H16 H')
          ⟨⟨_, _, _, rfl⟩, Ext.refl' _⟩ (fun t σ H' _ h => seqL n16 h.2) ?_ ?_
        · rintro t x σ H17 H18 ht ⟨⟨v15, v16, v17, rfl⟩, e17⟩ ⟨rfl, hx⟩
          clear hN
          rw [List.length_map] at ht
          obtain ⟨z, hz, rfl⟩ : ∃ z, zs[t]? = some z ∧ x = V.str z := by
            rw [List.getElem?_map] at hx
            cases e : zs[t]? with
            | none => rw [e] at hx; cases hx
            | some t' => rw [e] at hx; exact ⟨t', rfl, (Option.some.inj hx).symm⟩
          have hP17 := hP16.ext e17
          have hB17 := hB16.ext e17
          obtain ⟨dx, fs, i17, no17⟩ := ins hP17
          show tSeq _ _ _ [some (V.ref p0), some (V.ref pn), some (V.int many), some (V.int way), some (V.ref pr), some (V.ref pb), v6, v7, v8, v9, v10, v11, some (V.ref qd), some (V.ref ph), some (V.ref pu), some (V.str z), v16, v17, none, none, none, none] H18
          refine seq_i fun N2 hN2 => ?_
          simp only [tDNewK, tDIn, tDNotIn, tDGet, sDPut, rIxL, rIxT, rEq, rNe, rIsi, sFld, rSlL, rIn, rEqD, tYes, tCallN, tSeq, tIfS, tOp, tVar, tC, tCB, tCons, tNil, rI0, rI, tTest, tRet, tRetN, tNext, tAsg, gName, gNil, gCons, gTup, gUnl, tLst, tTup, tCall, tMeth, tMake, tUn, rU, tAndV, tOrV, tNotV, tAnd, tOr, tNot, tIf, tB, tFld, tDrop, tPar, tNever, tBM, rAppend, tSl, tPart, tNoPart, tM1, tyLst, List.getElem?_cons_zero, List.getElem?_cons_succ, Option.some.injEq, exists_eq_left', exists_eq_left, V.int.injEq, V.bl.injEq, V.str.injEq, V.ref.injEq, List.set_cons_zero, List.set_cons_succ, exists_and_left, exists_and_right, and_assoc, List.cons.injEq, and_true, true_and, List.cons_append, List.nil_append, List.append_nil, List.length_cons, List.length_nil, exists_eq', exists_eq, exists_const, exists_eq_right, exists_eq_right', cxK, Cx.nox, Cx.wish]
          refine ⟨_, _, i17, no17 _ (by decide +kernel), pu, d, z, hs, rfl, hP17, hch.nd, fun q H19 e19 P19 => hN2 _ _ ?_⟩
          clear hN2 N2
          obtain ⟨kb, hkb, hpb⟩ := hB17.ext e19
          refine seq_i fun N2 hN2 => ?_
          simp only [rEq, tDNewK, tDIn, tDNotIn, tDGet, sDPut, rIxL, rIxT, rEq, rNe, rIsi, sFld, rSlL, rIn, rEqD, tYes, tCallN, tSeq, tIfS, tOp, tVar, tC, tCB, tCons, tNil, rI0, rI, tTest, tRet, tRetN, tNext, tAsg, gName, gNil, gCons, gTup, gUnl, tLst, tTup, tCall, tMeth, tMake, tUn, rU, tAndV, tOrV, tNotV, tAnd, tOr, tNot, tIf, tB, tFld, tDrop, tPar, tNever, tBM, rAppend, tSl, tPart, tNoPart, tM1, tyLst, List.getElem?_cons_zero, List.getElem?_cons_succ, Option.some.injEq, exists_eq_left', exists_eq_left, V.int.injEq, V.bl.injEq, V.str.injEq, V.ref.injEq, List.set_cons_zero, List.set_cons_succ, exists_and_left, exists_and_right, and_assoc, List.cons.injEq, and_true, true_and, List.cons_append, List.nil_append, List.append_nil, List.length_cons, List.length_nil, exists_eq', exists_eq, exists_const, exists_eq_right, exists_eq_right', cxK, Cx.nox, Cx.wish]
          refine ⟨_, DGet.k (k := Sum.inr z) hkb, ?_⟩
          have hvz : Sz (val hs z) 1900 := (val_sz (n := z) hcsz).mono (by have : hs.length * (200 + 1) ≤ 8 * (200 + 1) := Nat.mul_le_mul_right _ (by omega); omega)
          have hfz : Neat (.tuple [.int (val hs z).num, .int (val hs z).den]) := (Mild.frac hvz).neat (by decide) (by decide)
          have fin : ∀ (H20 : Hp) (r : Addr), Ext H19 H20 → TupR H20 r (val hs z) → N2 [some (V.ref p0), some (V.ref pn), some (V.int many), some (V.int way), some (V.ref pr), some (V.ref pb), v6, v7, v8, v9, v10, v11, some (V.ref qd), some (V.ref ph), some (V.ref pu), some (V.str z), some (V.ref q), some (V.ref r), none, none, none, none] H20 := by
            intro H20 r e20 hr
            refine hN2 _ _ ?_
            clear hN2 N2
            obtain ⟨dq, hq⟩ := P19.ext e20
            simp only [rIsi, tDNewK, tDIn, tDNotIn, tDGet, sDPut, rIxL, rIxT, rEq, rNe, rIsi, sFld, rSlL, rIn, rEqD, tYes, tCallN, tSeq, tIfS, tOp, tVar, tC, tCB, tCons, tNil, rI0, rI, tTest, tRet, tRetN, tNext, tAsg, gName, gNil, gCons, gTup, gUnl, tLst, tTup, tCall, tMeth, tMake, tUn, rU, tAndV, tOrV, tNotV, tAnd, tOr, tNot, tIf, tB, tFld, tDrop, tPar, tNever, tBM, rAppend, tSl, tPart, tNoPart, tM1, tyLst, List.getElem?_cons_zero, List.getElem?_cons_succ, Option.some.injEq, exists_eq_left', exists_eq_left, V.int.injEq, V.bl.injEq, V.str.injEq, V.ref.injEq, List.set_cons_zero, List.set_cons_succ, exists_and_left, exists_and_right, and_assoc, List.cons.injEq, and_true, true_and, List.cons_append, List.nil_append, List.append_nil, List.length_cons, List.length_nil, exists_eq', exists_eq, exists_const, exists_eq_right, exists_eq_right', cxK, Cx.nox, Cx.wish]
            refine ⟨_, _, .own a.C_Part, ty_Part T hq, true, T.kit_Part_Part, iteF ?_⟩
            refine ⟨_, _, _, hq, T.cl_Part, T.na_Part_top, _, fsP_top _ _, _, _, _, hq, T.cl_Part, T.na_Part_low, _, fsP_low _ _, by decide, fun pt hpt => ?_⟩
            generalize hE : upd H20 pt _ = H21
            obtain ⟨e21, f21⟩ := alloc hpt hE
            refine ⟨_, _, .tuple [.int (val hs z).num, .int (val hs z).den], rfl, .tup (ofT f21) (.cons (.int _) (.cons (.int _) .nil)), .tup (ofT (e21 _ _ hr)) (.cons (.int _) (.cons (.int _) .nil)), hfz, true, rfl, iteF ?_⟩
            exact e17.trans (e19.trans (e20.trans e21))
          by_cases hnz : z ∈ es.map (·.1)
          · obtain ⟨e, he, rfl⟩ := List.mem_map.mp hnz
            obtain ⟨t0, hv, ht0⟩ := ent_get hpb hG.nd he
            rw [hv]
            refine iteT ⟨_, hv ▸ DGet.k (k := Sum.inr e.1) hkb, fin H19 t0 (Ext.refl' _) ?_⟩
            rw [hvc, val_mem (n := e.1) hG.nd he]
            exact ht0
          · rw [val_none (ent_miss hpb hnz)]
            refine iteF ⟨by decide, fun q0 hq0 => ?_⟩
            generalize hE : upd H19 q0 _ = H20
            obtain ⟨e20, f20⟩ := alloc hq0 hE
            refine fin H20 q0 e20 ?_
            rw [hvc, val_miss hnz]
            exact f20
        · rintro σ H17 ⟨⟨v15, v16, v17, rfl⟩, e17⟩
          refine hN _ _ ?_
          clear hN N
          have s17 := seqL s16 e17
          have n17 := seqL n16 e17
          have hT17 := rowP_ext hT16 e17
          have D17 := D16.ext e17
          have f17 := e17 _ _ f16
          have hP17 := hP16.ext e17
          clear s16 n16 hT16 hB16 D16 f16 hP16 e17
          -- shown
          refine seq_i fun N hN => ?_
          simp only [tDNewK, tDIn, tDNotIn, tDGet, sDPut, rIxL, rIxT, rEq, rNe, rIsi, sFld, rSlL, rIn, rEqD, tYes, tCallN, tSeq, tIfS, tOp, tVar, tC, tCB, tCons, tNil, rI0, rI, tTest, tRet, tRetN, tNext, tAsg, gName, gNil, gCons, gTup, gUnl, tLst, tTup, tCall, tMeth, tMake, tUn, rU, tAndV, tOrV, tNotV, tAnd, tOr, tNot, tIf, tB, tFld, tDrop, tPar, tNever, tBM, rAppend, tSl, tPart, tNoPart, tM1, tyLst, List.getElem?_cons_zero, List.getElem?_cons_succ, Option.some.injEq, exists_eq_left', exists_eq_left, V.int.injEq, V.bl.injEq, V.str.injEq, V.ref.injEq, List.set_cons_zero, List.set_cons_succ, exists_and_left, exists_and_right, and_assoc, List.cons.injEq, and_true, true_and, List.cons_append, List.nil_append, List.append_nil, List.length_cons, List.length_nil, exists_eq', exists_eq, exists_const, exists_eq_right, exists_eq_right', cxK, Cx.nox, Cx.wish]
          refine ⟨by decide, fun pw hpw => ?_⟩
          generalize hE : upd H17 pw _ = H18
          obtain ⟨e18, f18⟩ := alloc hpw hE
          refine hN _ _ ?_
          clear hN N hE
          obtain ⟨ts3, g3, r3⟩ := D17
          have l3 := Paired.length r3
          refine seq_i fun N hN => ?_
          refine tFor_i (J := Itl K qd) (H1 := H18) (fun R r => ⟨_, rfl, qd, rfl, ⟨_, ofL (e18 _ _ g3)⟩, r⟩) (walk_list (K := K) (a := qd) (xs := ts3.map V.ref))
            (fun t σ H' => (∃ v8 v9 v19, σ = [some (V.ref p0), some (V.ref pn), some (V.int many), some (V.int way), some (V.ref pr), some (V.ref pb), v6, v7, v8, v9, v10, v11, some (V.ref qd), some (V.ref ph), some (V.ref pu), v15, v16, v17, some (V.ref pw), v19, none, none]) ∧ Ext H17 H' ∧ H' pw = some (.lst (((hs.take t).map shownE).map V.str)))
            ⟨⟨_, _, _, rfl⟩, e18, f18⟩ (fun t σ H' _ h => ofL (h.2.1 _ _ g3)) ?_ ?_
          · rintro t x σ H19 H20 ht ⟨⟨v8, v9, v19, rfl⟩, e19, f19⟩ ⟨rfl, hx⟩
            clear hN
            rw [List.length_map] at ht
            obtain ⟨t3, ht3, rfl⟩ : ∃ t', ts3[t]? = some t' ∧ x = V.ref t' := by
              rw [List.getElem?_map] at hx
              cases e : ts3[t]? with
              | none => rw [e] at hx; cases hx
              | some t' => rw [e] at hx; exact ⟨t', rfl, (Option.some.inj hx).symm⟩
            obtain ⟨e, he, hr3⟩ := LiI.paired_get (row3_ext r3 e19) ht3
            refine ⟨t3, _, rfl, ofT hr3, rfl, ?_⟩
            simp only [rEq, tDNewK, tDIn, tDNotIn, tDGet, sDPut, rIxL, rIxT, rEq, rNe, rIsi, sFld, rSlL, rIn, rEqD, tYes, tCallN, tSeq, tIfS, tOp, tVar, tC, tCB, tCons, tNil, rI0, rI, tTest, tRet, tRetN, tNext, tAsg, gName, gNil, gCons, gTup, gUnl, tLst, tTup, tCall, tMeth, tMake, tUn, rU, tAndV, tOrV, tNotV, tAnd, tOr, tNot, tIf, tB, tFld, tDrop, tPar, tNever, tBM, rAppend, tSl, tPart, tNoPart, tM1, tyLst, List.getElem?_cons_zero, List.getElem?_cons_succ, Option.some.injEq, exists_eq_left', exists_eq_left, V.int.injEq, V.bl.injEq, V.str.injEq, V.ref.injEq, List.set_cons_zero, List.set_cons_succ, exists_and_left, exists_and_right, and_assoc, List.cons.injEq, and_true, true_and, List.cons_append, List.nil_append, List.append_nil, List.length_cons, List.length_nil, exists_eq', exists_eq, exists_const, exists_eq_right, exists_eq_right', cxK, Cx.nox, Cx.wish]
            have hem := List.mem_of_getElem? he
            have hz9 := (hcsz e hem).mono (show 200 ≤ 1900 by decide)
            have ht1 : e.2.num.natAbs.log2 < 1920 := log2_of (Nat.lt_of_lt_of_le hz9.n (Nat.pow_le_pow_right (by decide) (by decide)))
            have hl1 : (e.2.den : Int).natAbs.log2 < 1920 := log2_of (Nat.lt_of_lt_of_le hz9.d (Nat.pow_le_pow_right (by decide) (by decide)))
            have st := Small.int ht1
            have sl := Small.int hl1
            have s0 := (hzs.small (hcnm e hem)).len
            have t1 : (Str.ofString " ").length = 1 := by decide +kernel
            have t2 : (Str.ofString "/").length = 1 := by decide +kernel
            have u1 := (st.app (m := 1) (y := Str.ofString " ") ⟨by decide +kernel, by decide +kernel⟩).len
            have s2 := st.app (m := 1) (y := Str.ofString "/") ⟨by decide +kernel, by decide +kernel⟩
            have u2 := s2.len
            have u3 := (s2.app sl).len
            have u4 := ((s2.app sl).app (m := 1) (y := Str.ofString " ") ⟨by decide +kernel, by decide +kernel⟩).len
            have u5 := st.len
            have u6 := sl.len
            have hlen : (((hs.take t).map shownE).map V.str).length < sizeLine := by
              rw [List.length_map, List.length_map, List.length_take]
              omega
            refine ⟨tyLst f19, rfl, ite2 (fun h1 => ?_) (fun h1 => ?_)⟩
            · have h1 := of_decide_eq_true h1
              have es : (Str.ofString (toString e.2.num) ++ Str.ofString " ") ++ e.1 = shownE e := by
                unfold shownE showP
                rw [if_pos h1]
              refine ⟨ht1, by omega, by omega, _, f19, hlen, upd_ext e19 hpw, ?_⟩
              rw [upd_same, es, take_snoc he, List.map_append, List.map_append]
              rfl
            · have h1 : ¬ ((e.2.den : Int) = 1) := fun z => h1 (decide_eq_true z)
              have es : (Str.ofString (toString e.2.num) ++ Str.ofString "/" ++ Str.ofString (toString (e.2.den : Int)) ++ Str.ofString " ") ++ e.1 = shownE e := by
                unfold shownE showP
                rw [if_neg h1]
              refine ⟨ht1, by omega, hl1, by omega, by omega, by omega, _, f19, hlen, upd_ext e19 hpw, ?_⟩
              rw [upd_same, es, take_snoc he, List.map_append, List.map_append]
              rfl
          · rintro σ H19 ⟨⟨v8, v9, v19, rfl⟩, e19, f19⟩
            refine hN _ _ ?_
            clear hN N
            have D19 : Rows3 H19 qd hs := ⟨ts3, e19 _ _ g3, row3_ext r3 e19⟩
            rw [List.take_of_length_le (by rw [List.length_map]; omega)] at f19
            have s19 := seqL s17 e19
            have n19 := seqL n17 e19
            have hT19 := rowP_ext hT17 e19
            have f19r := e19 _ _ f17
            have hP19 := hP17.ext e19
            clear s17 n17 hT17 f17 hP17 e18 e19 g3 r3 l3 hpw f18
            obtain ⟨dx, fs, i19, no19⟩ := ins hP19
            have hshow : ∀ e ∈ hs, Sz e.2 1900 ∧ Small e.1 100 := fun e he => ⟨(hcsz e he).mono (by decide), (hzs.small (hcnm e he)).mono (by decide)⟩
            refine seq_i fun N hN => ?_
            simp only [rReprI, tDNewK, tDIn, tDNotIn, tDGet, sDPut, rIxL, rIxT, rEq, rNe, rIsi, sFld, rSlL, rIn, rEqD, tYes, tCallN, tSeq, tIfS, tOp, tVar, tC, tCB, tCons, tNil, rI0, rI, tTest, tRet, tRetN, tNext, tAsg, gName, gNil, gCons, gTup, gUnl, tLst, tTup, tCall, tMeth, tMake, tUn, rU, tAndV, tOrV, tNotV, tAnd, tOr, tNot, tIf, tB, tFld, tDrop, tPar, tNever, tBM, rAppend, tSl, tPart, tNoPart, tM1, tyLst, List.getElem?_cons_zero, List.getElem?_cons_succ, Option.some.injEq, exists_eq_left', exists_eq_left, V.int.injEq, V.bl.injEq, V.str.injEq, V.ref.injEq, List.set_cons_zero, List.set_cons_succ, exists_and_left, exists_and_right, and_assoc, List.cons.injEq, and_true, true_and, List.cons_append, List.nil_append, List.append_nil, List.length_cons, List.length_nil, exists_eq', exists_eq, exists_const, exists_eq_right, exists_eq_right', cxK, Cx.nox, Cx.wish]
            have hl8 : hs.length ≤ 8 := by omega
            have fin : ∀ H21, Ext H19 H21 → spTold a.C_Purse a.C_Part [V.ref pu] H21 (fun x H1 => rNeD K x (V.ref qd) H1 fun x H' => ∃ k, x = V.bl k ∧ if k = true then Q (V.bl false) H' else
                N [some (V.ref p0), some (V.ref pn), some (V.int many), some (V.int way), some (V.ref pr), some (V.ref pb), v6, v7, v8, v9, v10, v11, some (V.ref qd), some (V.ref ph), some (V.ref pu), v15, v16, v17, some (V.ref pw), v19, none, none] H') E0 := by
              intro H21 e21
              refine ⟨pu, d, hs, rfl, hP19.ext e21, hch.nd, by omega, fun q1 H22 e22 _ r22 => ?_⟩
              refine ⟨_, _, r22.dp, ((D19.ext e21).ext e22).dp, hneat.shaped, hneat.shaped, ?_⟩
              rw [hneat.refl]
              refine ⟨false, rfl, iteF (hN _ _ ?_)⟩
              clear hN N
              have e192 := e21.trans e22
              have s22 := seqL s19 e192
              have n22 := seqL n19 e192
              have hT22 := rowP_ext hT19 e192
              have D22 := D19.ext e192
              have f22 := e192 _ _ f19r
              have hP22 := hP19.ext e192
              clear s19 n19 hT19 D19 f19r hP19 e192 e21 e22 r22 i19 no19 f19
              -- turning
              refine seq_i fun N hN => ?_
              simp only [tRevL, tDNewK, tDIn, tDNotIn, tDGet, sDPut, rIxL, rIxT, rEq, rNe, rIsi, sFld, rSlL, rIn, rEqD, tYes, tCallN, tSeq, tIfS, tOp, tVar, tC, tCB, tCons, tNil, rI0, rI, tTest, tRet, tRetN, tNext, tAsg, gName, gNil, gCons, gTup, gUnl, tLst, tTup, tCall, tMeth, tMake, tUn, rU, tAndV, tOrV, tNotV, tAnd, tOr, tNot, tIf, tB, tFld, tDrop, tPar, tNever, tBM, rAppend, tSl, tPart, tNoPart, tM1, tyLst, List.getElem?_cons_zero, List.getElem?_cons_succ, Option.some.injEq, exists_eq_left', exists_eq_left, V.int.injEq, V.bl.injEq, V.str.injEq, V.ref.injEq, List.set_cons_zero, List.set_cons_succ, exists_and_left, exists_and_right, and_assoc, List.cons.injEq, and_true, true_and, List.cons_append, List.nil_append, List.append_nil, List.length_cons, List.length_nil, exists_eq', exists_eq, exists_const, exists_eq_right, exists_eq_right', cxK, Cx.nox, Cx.wish]
              refine ⟨_, ofL f22, fun pv hpv => ?_⟩
              generalize hE : upd H22 pv _ = H23
              obtain ⟨e23, f23⟩ := alloc hpv hE
              have hTr : Paired (RowP a.C_Part H23) ts.reverse rs.reverse := pair_rev (rowP_ext hT22 e23)
              intro x dx hx hdx _
              refine mk_purse (ts := ts.reverse) (es := rs.reverse) (b := 24) hx hdx (.inl (ofL (by rw [f23, List.map_reverse]))) hTr (fun e he => (hrs e (List.mem_reverse.mp he)).1) (by rw [List.length_reverse]; exact hb226) (by rw [List.length_reverse]; omega) fun H24 h4 d4 e24 nd4 hc4 hv4 P4 => ⟨rfl, hN _ _ ?_⟩
              clear hN N hE
              have hv4 : ∀ n, val h4 n = val rs n := fun n => by rw [hv4, val_rev]
              have heq4 : hs = h4 := hch.eq hc4 fun n => by rw [hv4, hvr]
              subst heq4
              have e224 := e23.trans e24
              have hd4 : d ≠ d4 := by
                obtain ⟨_, kv, _, h2, _⟩ := hP22.ext e23
                exact (ne_of_new nd4 h2).symm
              have s24 := seqL s22 e224
              have n24 := seqL n22 e224
              have hT24 := rowP_ext hT22 e224
              have D24 := D22.ext e224
              have f24 := e224 _ _ f22
              have hP24 := hP22.ext e224
              clear s22 n22 hT22 D22 f22 hP22 e224 e23 e24 f23 hpv nd4 hTr hx hdx hv4
              -- other
              refine seq_i fun N hN => ?_
              simp only [tDNewK, tDIn, tDNotIn, tDGet, sDPut, rIxL, rIxT, rEq, rNe, rIsi, sFld, rSlL, rIn, rEqD, tYes, tCallN, tSeq, tIfS, tOp, tVar, tC, tCB, tCons, tNil, rI0, rI, tTest, tRet, tRetN, tNext, tAsg, gName, gNil, gCons, gTup, gUnl, tLst, tTup, tCall, tMeth, tMake, tUn, rU, tAndV, tOrV, tNotV, tAnd, tOr, tNot, tIf, tB, tFld, tDrop, tPar, tNever, tBM, rAppend, tSl, tPart, tNoPart, tM1, tyLst, List.getElem?_cons_zero, List.getElem?_cons_succ, Option.some.injEq, exists_eq_left', exists_eq_left, V.int.injEq, V.bl.injEq, V.str.injEq, V.ref.injEq, List.set_cons_zero, List.set_cons_succ, exists_and_left, exists_and_right, and_assoc, List.cons.injEq, and_true, true_and, List.cons_append, List.nil_append, List.append_nil, List.length_cons, List.length_nil, exists_eq', exists_eq, exists_const, exists_eq_right, exists_eq_right', cxK, Cx.nox, Cx.wish]
              obtain ⟨z1, hz1, hat1⟩ := str_at (zs := zs) (k := 1) (by omega) (by omega)
              refine ⟨_, n24, _, hat1, fun x5 dx5 hx5 hdx5 _ => ?_⟩
              refine mk_partR (t := 1) (l := 5) hx5 hdx5 (by decide) (Nat.lt_of_lt_of_le (show (1 : Int).natAbs < 2 ^ 3 by decide) (Nat.pow_le_pow_right (by decide) (by decide))) (Nat.lt_of_lt_of_le (show (5 : Int).natAbs < 2 ^ 3 by decide) (Nat.pow_le_pow_right (by decide) (by decide))) fun H25 e25 P25 => ⟨rfl, by decide, fun pt hpt => ⟨by decide, fun pl hpl => ?_⟩⟩
              generalize hE : upd H25 pt _ = H26 at hpl ⊢
              obtain ⟨e26, f26⟩ := alloc hpt hE
              generalize hE2 : upd H26 pl _ = H27
              obtain ⟨e27, f27⟩ := alloc hpl hE2
              have e247 := e25.trans (e26.trans e27)
              simp only [rCat]
              refine ⟨pr, pl, _, _, rfl, rfl, e247 _ _ f24, f27, by rw [List.length_map]; show _ + 1 ≤ _; omega, fun pc hpc => ?_⟩
              generalize hE3 : upd H27 pc _ = H28
              obtain ⟨e28, f28⟩ := alloc hpc hE3
              intro x6 dx6 hx6 hdx6 _
              have hTo : Paired (RowP a.C_Part H28) (ts ++ [pt]) (rs ++ [(z1, Rat.divInt 1 5)]) := rowP_ext (Paired.snoc (rowP_ext hT24 e247) ⟨x5, e27 _ _ f26, P25.ext (e26.trans e27)⟩) e28
              have hs5 : Sz (Rat.divInt 1 5) 24 := Sz.of (by decide) (by decide) (by decide)
              refine mk_purse (ts := ts ++ [pt]) (es := rs ++ [(z1, Rat.divInt 1 5)]) (b := 24) hx6 hdx6 (.inl (ofL (by rw [f28, List.map_append]; rfl))) hTo (fun e he => ?_) (by rw [List.length_append]; show 1 + (_ + 1) * _ ≤ _; omega) (by rw [List.length_append]; show _ + 1 < _; omega) fun H29 h5 d5 e29 nd5 hc5 hv5 P5 => ⟨rfl, hN _ _ ?_⟩
              · rcases List.mem_append.mp he with h | h
                · exact (hrs e h).1
                · rw [List.mem_singleton.mp h]
                  exact hs5
              clear hN N hE hE2 hE3
              have e2428 := e247.trans e28
              have e2429 := e2428.trans e29
              have hne5 : hs ≠ h5 := fun z => by
                have h := hv5 z1
                rw [← z, hvr, val_append, show val [(z1, Rat.divInt 1 5)] z1 = val (addR [] z1 (Rat.divInt 1 5)) z1 from rfl, val_addR, if_pos rfl] at h
                have h0 : (0 : Rat) = 0 + Rat.divInt 1 5 := by
                  have : val rs z1 = val rs z1 + (val [] z1 + Rat.divInt 1 5) := h
                  have e0 : val [] z1 = 0 := rfl
                  rw [e0] at this
                  grind
                exact absurd h0 (by decide +kernel)
              have hd5 : d ≠ d5 := by
                obtain ⟨_, kv, _, h2, _⟩ := hP24.ext e2428
                exact (ne_of_new nd5 h2).symm
              have hP29 := hP24.ext e2429
              have P4 := P4.ext e2429
              have D29 := D24.ext e2429
              clear s24 n24 hT24 D24 f24 hP24 e2428 e2429 e247 e25 e26 e27 e28 e29 f26 f27 f28 hTo P25 hpt hpl hpc hx6 hdx6 hx5 hdx5 nd5 hv5
              obtain ⟨dxp, fsp, ip, nop⟩ := ins hP29
              have ins2 : ∀ {H : Hp} {p d : Addr} {hs : List (Str × Rat)}, PurD a.C_Purse a.C_Part H p d hs → ∃ dx fs, H p = some (.ins a.C_Purse dx fs) := fun h => by
                obtain ⟨dx, kvs, h1, _, _⟩ := h
                exact ⟨dx, _, h1⟩
              obtain ⟨dx4, fs4, i4⟩ := ins2 P4
              obtain ⟨dx5, fs5, i5⟩ := ins2 P5
              refine seq_i fun N hN => ?_
              simp only [rReprI, tDNewK, tDIn, tDNotIn, tDGet, sDPut, rIxL, rIxT, rEq, rNe, rIsi, sFld, rSlL, rIn, rEqD, tYes, tCallN, tSeq, tIfS, tOp, tVar, tC, tCB, tCons, tNil, rI0, rI, tTest, tRet, tRetN, tNext, tAsg, gName, gNil, gCons, gTup, gUnl, tLst, tTup, tCall, tMeth, tMake, tUn, rU, tAndV, tOrV, tNotV, tAnd, tOr, tNot, tIf, tB, tFld, tDrop, tPar, tNever, tBM, rAppend, tSl, tPart, tNoPart, tM1, tyLst, List.getElem?_cons_zero, List.getElem?_cons_succ, Option.some.injEq, exists_eq_left', exists_eq_left, V.int.injEq, V.bl.injEq, V.str.injEq, V.ref.injEq, List.set_cons_zero, List.set_cons_succ, exists_and_left, exists_and_right, and_assoc, List.cons.injEq, and_true, true_and, List.cons_append, List.nil_append, List.append_nil, List.length_cons, List.length_nil, exists_eq', exists_eq, exists_const, exists_eq_right, exists_eq_right', cxK, Cx.nox, Cx.wish]
              refine ⟨pu, _, _, _, rfl, ip, ty_Purse T i4, T.nf_Purse_Purse, pu, d, hs, .ref x, rfl, hP29, hch, .inl ⟨x, d4, hs, rfl, P4, hch, hd4, true, ?_, true, rfl, iteF ?_⟩⟩
              · rw [decide_eq_true rfl]
              refine ⟨pu, _, _, _, rfl, ip, ty_Purse T i5, T.nf_Purse_Purse, pu, d, hs, .ref x6, rfl, hP29, hch, .inl ⟨x6, d5, h5, rfl, P5, hc5, hd5, false, ?_, false, rfl, iteF ?_⟩⟩
              · rw [decide_eq_false hne5]
              obtain ⟨ts6, g6, r6⟩ := D29
              refine ⟨pu, _, _, _, rfl, ip, .base (.lst g6), T.nf_list_Purse, pu, d, hs, .ref qd, rfl, hP29, hch, .inr ⟨_, .base (.lst g6), T.kit_list_Purse, false, rfl, false, rfl, iteF ?_⟩⟩
              refine ⟨⟨_, _, ip⟩, pu, d, hs, rfl, hP29, hshow, by omega, fun H30 e30 => ⟨⟨_, rfl⟩, ?_⟩⟩
              refine ⟨pu, _, _, _, rfl, e30 _ _ ip, .base (.str _), T.nf_str_Purse, pu, d, hs, _, rfl, hP29.ext e30, hch, .inr ⟨_, .base (.str _), T.kit_str_Purse, false, rfl, false, rfl, iteF ?_⟩⟩
              intro x7 dx7 hx7 hdx7 _
              refine mk_partE (t := 0) (l := 1) hx7 hdx7 (by decide) (Nat.two_pow_pos _) (Nat.lt_of_lt_of_le (show (1 : Int).natAbs < 2 ^ 1 by decide) (Nat.pow_le_pow_right (by decide) (by decide))) fun H31 e31 i31 => ⟨rfl, ?_⟩
              obtain ⟨dx31, i31⟩ := i31
              have hP31 := (hP29.ext e30).ext e31
              obtain ⟨dxq, fsq, iq⟩ := ins2 hP31
              refine ⟨pu, _, _, _, rfl, iq, ty_Part T i31, T.nf_Part_Purse, pu, d, hs, _, rfl, hP31, hch, .inr ⟨_, ty_Part T i31, T.kit_Part_Purse, false, rfl, false, rfl, iteF (hN _ _ ?_)⟩⟩
              clear hN N
              have D31 : Rows3 H31 qd hs := Rows3.ext (Rows3.ext ⟨ts6, g6, r6⟩ e30) e31
              clear hP29 ip nop P4 P5 i4 i5 g6 r6 e30 e31 i31 hx7 hdx7 iq
              simp only [tDNewK, tDIn, tDNotIn, tDGet, sDPut, rIxL, rIxT, rEq, rNe, rIsi, sFld, rSlL, rIn, rEqD, tYes, tCallN, tSeq, tIfS, tOp, tVar, tC, tCB, tCons, tNil, rI0, rI, tTest, tRet, tRetN, tNext, tAsg, gName, gNil, gCons, gTup, gUnl, tLst, tTup, tCall, tMeth, tMake, tUn, rU, tAndV, tOrV, tNotV, tAnd, tOr, tNot, tIf, tB, tFld, tDrop, tPar, tNever, tBM, rAppend, tSl, tPart, tNoPart, tM1, tyLst, List.getElem?_cons_zero, List.getElem?_cons_succ, Option.some.injEq, exists_eq_left', exists_eq_left, V.int.injEq, V.bl.injEq, V.str.injEq, V.ref.injEq, List.set_cons_zero, List.set_cons_succ, exists_and_left, exists_and_right, and_assoc, List.cons.injEq, and_true, true_and, List.cons_append, List.nil_append, List.append_nil, List.length_cons, List.length_nil, exists_eq', exists_eq, exists_const, exists_eq_right, exists_eq_right', cxK, Cx.nox, Cx.wish]
              intro x7 dx7 hx7 hdx7 _
              refine mk_purse (ts := []) (es := []) (b := 0) hx7 hdx7 (.inr (T.sq_t_rows.sq _)) .nil (fun e he => absurd he List.not_mem_nil) (by decide) (by decide) fun H32 g1 da e32 nda hc1 hv1 Pa => ⟨rfl, ?_⟩
              obtain rfl : g1 = [] := hc1.eq Canon.nil hv1
              refine ⟨by decide, fun pe1 hpe1 => ?_⟩
              generalize hE : upd H32 pe1 _ = H33
              obtain ⟨e33, f33⟩ := alloc hpe1 hE
              intro x8 dx8 hx8 hdx8 _
              refine mk_purse (ts := []) (es := []) (b := 0) hx8 hdx8 (.inr (ofT f33)) .nil (fun e he => absurd he List.not_mem_nil) (by decide) (by decide) fun H34 g2 db e34 ndb hc2 hv2 Pb => ⟨rfl, ?_⟩
              obtain rfl : g2 = [] := hc2.eq Canon.nil hv2
              refine eq_pur T (Pa.ext (e33.trans e34)) Pb hc1 hc2 (pur_dict_ne (Pa.ext e33) ndb) ⟨_, rfl, ?_⟩
              refine iteT ⟨by decide, fun pe2 hpe2 => ?_⟩
              generalize hE2 : upd H34 pe2 _ = H35
              obtain ⟨e35, f35⟩ := alloc hpe2 hE2
              intro x9 dx9 hx9 hdx9 _
              refine mk_purse (ts := []) (es := []) (b := 0) hx9 hdx9 (.inl (ofL f35)) .nil (fun e he => absurd he List.not_mem_nil) (by decide) (by decide) fun H36 g3 dc e36 ndc hc3 hv3 Pc => ⟨rfl, ?_⟩
              obtain rfl : g3 = [] := hc3.eq Canon.nil hv3
              intro x10 dx10 hx10 hdx10 _
              refine mk_purse (ts := []) (es := []) (b := 0) hx10 hdx10 (.inr (T.sq_t_rows.sq _)) .nil (fun e he => absurd he List.not_mem_nil) (by decide) (by decide) fun H37 g4 dd e37 ndd hc4 hv4 Pd => ⟨rfl, ?_⟩
              obtain rfl : g4 = [] := hc4.eq Canon.nil hv4
              refine eq_pur T (Pc.ext e37) Pd hc3 hc4 (pur_dict_ne Pc ndd) ⟨_, rfl, ?_⟩
              have e317 := e32.trans (e33.trans (e34.trans (e35.trans (e36.trans e37))))
              refine iteT ?_
              intro x11 dx11 hx11 hdx11 _
              refine mk_purse (ts := []) (es := []) (b := 0) hx11 hdx11 (.inr (T.sq_t_rows.sq _)) .nil (fun e he => absurd he List.not_mem_nil) (by decide) (by decide) fun H38 g5 de e38 nde hc5 hv5 Pe => ⟨rfl, ?_⟩
              obtain rfl : g5 = [] := hc5.eq Canon.nil hv5
              refine eq_pur T ((hP31.ext e317).ext e38) Pe hch hc5 (pur_dict_ne (hP31.ext e317) nde) ?_
              refine ⟨by decide, fun pe3 hpe3 => ?_⟩
              generalize hE3 : upd H38 pe3 _ = H39
              obtain ⟨e39, f39⟩ := alloc hpe3 hE3
              refine ⟨_, (D31.ext (e317.trans (e38.trans e39))).dp, .list [], .lst (ofL f39) .nil, hneat.shaped, by decide, ?_⟩
              rw [eqv_nil]
              refine ⟨rfl, ?_⟩
              rw [decide_eq_true rfl]
              exact q _
            refine ⟨⟨_, _, i19⟩, pu, d, hs, rfl, hP19, hshow, by omega, fun H20 e20 => ⟨⟨_, rfl⟩, by decide, fun pe hpe => ?_⟩⟩
            generalize hE : upd H20 pe _ = H21
            obtain ⟨e21, f21⟩ := alloc hpe hE
            have e192 := e20.trans e21
            have hns := neat_str (showL_small hshow hl8)
            refine ⟨_, (D19.ext e192).dp, .list [], .lst (ofL f21) .nil, hneat.shaped, by decide, ?_⟩
            by_cases hnil : hs = []
            · subst hnil
              refine iteT ⟨_, _, _, rfl, .str _, ?_, hns, true, rfl, iteF (fin H21 e192)⟩
              exact .str _
            · have hq : PyData.eqv (.list (hs.map row3D)) (.list []) = false := by
                cases hs with
                | nil => exact absurd rfl hnil
                | cons _ _ => rfl
              rw [hq]
              refine iteF ?_
              have hall : ∀ y ∈ hs.map shownE, y.length ≤ 3944 := fun y hy => by
                obtain ⟨e, he, rfl⟩ := List.mem_map.mp hy
                exact (shownE_small (hshow e he).1 (hshow e he).2).len
              have hsum := sum_le hall
              refine ⟨_, pw, hs.map shownE, rfl, rfl, .inl (ofL (e192 _ _ f19)), ?_, _, _, _, rfl, .str _, ?_, hns, true, rfl, iteF (fin H21 e192)⟩
              · rw [List.length_map] at hsum ⊢
                have h2 : (Str.ofString ", ").length = 2 := by decide +kernel
                rw [h2]
                omega
              · unfold showL
                rw [if_neg hnil]
                exact .str _
      simp only [rEq, tDNewK, tDIn, tDNotIn, tDGet, sDPut, rIxL, rIxT, rEq, rNe, rIsi, sFld, rSlL, rIn, rEqD, tYes, tCallN, tSeq, tIfS, tOp, tVar, tC, tCB, tCons, tNil, rI0, rI, tTest, tRet, tRetN, tNext, tAsg, gName, gNil, gCons, gTup, gUnl, tLst, tTup, tCall, tMeth, tMake, tUn, rU, tAndV, tOrV, tNotV, tAnd, tOr, tNot, tIf, tB, tFld, tDrop, tPar, tNever, tBM, rAppend, tSl, tPart, tNoPart, tM1, tyLst, List.getElem?_cons_zero, List.getElem?_cons_succ, Option.some.injEq, exists_eq_left', exists_eq_left, V.int.injEq, V.bl.injEq, V.str.injEq, V.ref.injEq, List.set_cons_zero, List.set_cons_succ, exists_and_left, exists_and_right, and_assoc, List.cons.injEq, and_true, true_and, List.cons_append, List.nil_append, List.append_nil, List.length_cons, List.length_nil, exists_eq', exists_eq, exists_const, exists_eq_right, exists_eq_right', cxK, Cx.nox, Cx.wish]
      have hT8 := rowP_ext hT7 e8
      have hsr : ∀ e ∈ rs, Sz e.2 24 := fun e he => (hrs e he).1
      refine ⟨rfl, ite2 (fun _ => ⟨_, .inl ⟨ofL f8, fun l hl x dx hx hdx _ => ?_⟩⟩) (fun _ x dx hx hdx _ => mk_purse hx hdx (.inl (ofL f8)) hT8 hsr hb226 (by omega) fun H9 hs d e9 _ hch hvh hP => ⟨rfl, merge _ _ _ _ e9 hch hvh hP⟩)⟩
      generalize hE : upd H8 l _ = H9 at hx hdx ⊢
      obtain ⟨e9, f9⟩ := alloc hl hE
      exact mk_purse hx hdx (.inr (ofT f9)) (rowP_ext hT8 e9) hsr hb226 (by omega) fun H10 hs d e10 _ hch hvh hP => ⟨rfl, merge _ _ _ _ (e9.trans e10) hch hvh hP⟩
end
end My

set_option Elab.async false
set_option maxRecDepth 100000
set_option maxHeartbeats 4000000
set_option linter.all false
namespace My
open PySem L2 Own
section
variable {P : Program} {w : World} {K : PySem.W.Frag} {mg : Str → Option Value} {base : Heap} {a : Adr}
end
theorem all_mk {P : Program} {w : World} {K : PySem.W.Frag} {h : Heap} {mg : Str → Option Value} {fa C_Part C_Purse f_Part_init f_Part_plus f_Part_sign f_Part_eq f_Part_repr f_Purse_init f_Purse_at f_Purse_coins f_Purse_eq f_Purse_len f_Purse_repr f_l_cell f_l_digits f_l_names f_l_frac f_l_plus f_l_add f_l_due f_l_whole f_l_told f_l_same f_law t_rows T_Part_init T_Purse_init : Addr} (X : K.In h) (G : h.Ns mainGlobals mg) (hfa : mg "law" = some (.ref fa))
    {od_Part_init an_Part_init od_Part_plus an_Part_plus od_Part_sign an_Part_sign od_Part_eq an_Part_eq od_Part_repr an_Part_repr od_Purse_init an_Purse_init od_Purse_at an_Purse_at od_Purse_coins an_Purse_coins od_Purse_eq an_Purse_eq od_Purse_len an_Purse_len od_Purse_repr an_Purse_repr od_l_cell an_l_cell od_l_digits an_l_digits od_l_names an_l_names od_l_frac an_l_frac od_l_plus an_l_plus od_l_add an_l_add od_l_due an_l_due od_l_whole an_l_whole od_l_told an_l_told od_l_same an_l_same od_law an_law : Option Addr}
    {sl_Part_init sl_Part_plus sl_Part_sign sl_Part_eq sl_Part_repr sl_Purse_init sl_Purse_at sl_Purse_coins sl_Purse_eq sl_Purse_len sl_Purse_repr sl_l_cell sl_l_digits sl_l_names sl_l_frac sl_l_plus sl_l_add sl_l_due sl_l_whole sl_l_told sl_l_same sl_law : Array (Option Value)}
    {oc_Part_init kV_Part_init dc_Part_init pm_Part_init cd_Part_init ct_Part_init oc_Part_plus kV_Part_plus dc_Part_plus pm_Part_plus cd_Part_plus ct_Part_plus oc_Part_sign kV_Part_sign dc_Part_sign pm_Part_sign cd_Part_sign ct_Part_sign oc_Part_eq kV_Part_eq dc_Part_eq pm_Part_eq cd_Part_eq ct_Part_eq oc_Part_repr kV_Part_repr dc_Part_repr pm_Part_repr cd_Part_repr ct_Part_repr oc_Purse_init kV_Purse_init dc_Purse_init pm_Purse_init cd_Purse_init ct_Purse_init oc_Purse_at kV_Purse_at dc_Purse_at pm_Purse_at cd_Purse_at ct_Purse_at oc_Purse_coins kV_Purse_coins dc_Purse_coins pm_Purse_coins cd_Purse_coins ct_Purse_coins oc_Purse_eq kV_Purse_eq dc_Purse_eq pm_Purse_eq cd_Purse_eq ct_Purse_eq oc_Purse_len kV_Purse_len dc_Purse_len pm_Purse_len cd_Purse_len ct_Purse_len oc_Purse_repr kV_Purse_repr dc_Purse_repr pm_Purse_repr cd_Purse_repr ct_Purse_repr oc_l_cell kV_l_cell dc_l_cell pm_l_cell cd_l_cell ct_l_cell oc_l_digits kV_l_digits dc_l_digits pm_l_digits cd_l_digits ct_l_digits oc_l_names kV_l_names dc_l_names pm_l_names cd_l_names ct_l_names oc_l_frac kV_l_frac dc_l_frac pm_l_frac cd_l_frac ct_l_frac oc_l_plus kV_l_plus dc_l_plus pm_l_plus cd_l_plus ct_l_plus oc_l_add kV_l_add dc_l_add pm_l_add cd_l_add ct_l_add oc_l_due kV_l_due dc_l_due pm_l_due cd_l_due ct_l_due oc_l_whole kV_l_whole dc_l_whole pm_l_whole cd_l_whole ct_l_whole oc_l_told kV_l_told dc_l_told pm_l_told cd_l_told ct_l_told oc_l_same kV_l_same dc_l_same pm_l_same cd_l_same ct_l_same oc_law kV_law dc_law pm_law cd_law ct_law : Value}
    {tc_Part_init : Value} {td_Part_init : Option Addr} {its_Part_init : List Value} {tn_Part_init : Nat} {ts_Part_init : Array (Option Value)}
    {tc_Purse_init : Value} {td_Purse_init : Option Addr} {its_Purse_init : List Value} {tn_Purse_init : Nat} {ts_Purse_init : Array (Option Value)}
    {etd_t_rows : Option Addr} {eti_t_rows : Array Value} {etn_t_rows : Nat} {ets_t_rows : Array (Option Value)}
    (g_l_cell : PySem.W.nsIn K mainGlobals "_law_cell" = some (some (.ref f_l_cell)))
    (g_l_digits : PySem.W.nsIn K mainGlobals "_law_digits" = some (some (.ref f_l_digits)))
    (g_l_names : PySem.W.nsIn K mainGlobals "_law_names" = some (some (.ref f_l_names)))
    (g_l_frac : PySem.W.nsIn K mainGlobals "_law_frac" = some (some (.ref f_l_frac)))
    (g_l_plus : PySem.W.nsIn K mainGlobals "_law_plus" = some (some (.ref f_l_plus)))
    (g_l_add : PySem.W.nsIn K mainGlobals "_law_add" = some (some (.ref f_l_add)))
    (g_l_due : PySem.W.nsIn K mainGlobals "_law_due" = some (some (.ref f_l_due)))
    (g_l_whole : PySem.W.nsIn K mainGlobals "_law_whole" = some (some (.ref f_l_whole)))
    (g_l_told : PySem.W.nsIn K mainGlobals "_law_told" = some (some (.ref f_l_told)))
    (g_l_same : PySem.W.nsIn K mainGlobals "_law_same" = some (some (.ref f_l_same)))
    (g_law : PySem.W.nsIn K mainGlobals "law" = some (some (.ref f_law)))
    (g_Part : PySem.W.nsIn K mainGlobals "Part" = some (some (.ref C_Part)))
    (in_Part : PySem.W.findIn K (.ref C_Part) "__init__" = some (some (.ref f_Part_init)))
    (ma_Part_plus : PySem.W.findIn K (.ref C_Part) "plus" = some (some (.ref f_Part_plus)))
    (ma_Part_sign : PySem.W.findIn K (.ref C_Part) "sign" = some (some (.ref f_Part_sign)))
    (ma_Part_eq : PySem.W.findIn K (.ref C_Part) "__eq__" = some (some (.ref f_Part_eq)))
    (ma_Part_repr : PySem.W.findIn K (.ref C_Part) "__repr__" = some (some (.ref f_Part_repr)))
    (g_Purse : PySem.W.nsIn K mainGlobals "Purse" = some (some (.ref C_Purse)))
    (in_Purse : PySem.W.findIn K (.ref C_Purse) "__init__" = some (some (.ref f_Purse_init)))
    (ma_Purse_at : PySem.W.findIn K (.ref C_Purse) "at" = some (some (.ref f_Purse_at)))
    (ma_Purse_coins : PySem.W.findIn K (.ref C_Purse) "coins" = some (some (.ref f_Purse_coins)))
    (ma_Purse_eq : PySem.W.findIn K (.ref C_Purse) "__eq__" = some (some (.ref f_Purse_eq)))
    (ma_Purse_len : PySem.W.findIn K (.ref C_Purse) "__len__" = some (some (.ref f_Purse_len)))
    (ma_Purse_repr : PySem.W.findIn K (.ref C_Purse) "__repr__" = some (some (.ref f_Purse_repr)))
    (l_Part_init : K.lookup f_Part_init = some ⟨oc_Part_init, od_Part_init, .func (PySem.W.fnOf "__init__" "Part.__init__" (defArgs s_Part_init) (defBody s_Part_init) (defScope s_Part_init) (.ref T_Part_init) kV_Part_init dc_Part_init pm_Part_init an_Part_init cd_Part_init ct_Part_init), sl_Part_init⟩)
    (c_Part_init : PySem.W.codeIn K cd_Part_init "Part.__init__" = true)
    (k_Part_init : PySem.W.keepIn K (.ref f_Part_init) = true)
    (lT_Part_init : K.lookup T_Part_init = some ⟨tc_Part_init, td_Part_init, .seq its_Part_init.toArray tn_Part_init, ts_Part_init⟩)
    (vT_Part_init : Vals [V.int 1] its_Part_init)
    (l_Part_plus : K.lookup f_Part_plus = some ⟨oc_Part_plus, od_Part_plus, .func (PySem.W.fnOf "plus" "Part.plus" (defArgs s_Part_plus) (defBody s_Part_plus) (defScope s_Part_plus) .none kV_Part_plus dc_Part_plus pm_Part_plus an_Part_plus cd_Part_plus ct_Part_plus), sl_Part_plus⟩)
    (c_Part_plus : PySem.W.codeIn K cd_Part_plus "Part.plus" = true)
    (k_Part_plus : PySem.W.keepIn K (.ref f_Part_plus) = true)
    (l_Part_sign : K.lookup f_Part_sign = some ⟨oc_Part_sign, od_Part_sign, .func (PySem.W.fnOf "sign" "Part.sign" (defArgs s_Part_sign) (defBody s_Part_sign) (defScope s_Part_sign) .none kV_Part_sign dc_Part_sign pm_Part_sign an_Part_sign cd_Part_sign ct_Part_sign), sl_Part_sign⟩)
    (c_Part_sign : PySem.W.codeIn K cd_Part_sign "Part.sign" = true)
    (k_Part_sign : PySem.W.keepIn K (.ref f_Part_sign) = true)
    (l_Part_eq : K.lookup f_Part_eq = some ⟨oc_Part_eq, od_Part_eq, .func (PySem.W.fnOf "__eq__" "Part.__eq__" (defArgs s_Part_eq) (defBody s_Part_eq) (defScope s_Part_eq) .none kV_Part_eq dc_Part_eq pm_Part_eq an_Part_eq cd_Part_eq ct_Part_eq), sl_Part_eq⟩)
    (c_Part_eq : PySem.W.codeIn K cd_Part_eq "Part.__eq__" = true)
    (k_Part_eq : PySem.W.keepIn K (.ref f_Part_eq) = true)
    (l_Part_repr : K.lookup f_Part_repr = some ⟨oc_Part_repr, od_Part_repr, .func (PySem.W.fnOf "__repr__" "Part.__repr__" (defArgs s_Part_repr) (defBody s_Part_repr) (defScope s_Part_repr) .none kV_Part_repr dc_Part_repr pm_Part_repr an_Part_repr cd_Part_repr ct_Part_repr), sl_Part_repr⟩)
    (c_Part_repr : PySem.W.codeIn K cd_Part_repr "Part.__repr__" = true)
    (k_Part_repr : PySem.W.keepIn K (.ref f_Part_repr) = true)
    (l_Purse_init : K.lookup f_Purse_init = some ⟨oc_Purse_init, od_Purse_init, .func (PySem.W.fnOf "__init__" "Purse.__init__" (defArgs s_Purse_init) (defBody s_Purse_init) (defScope s_Purse_init) (.ref T_Purse_init) kV_Purse_init dc_Purse_init pm_Purse_init an_Purse_init cd_Purse_init ct_Purse_init), sl_Purse_init⟩)
    (c_Purse_init : PySem.W.codeIn K cd_Purse_init "Purse.__init__" = true)
    (k_Purse_init : PySem.W.keepIn K (.ref f_Purse_init) = true)
    (lT_Purse_init : K.lookup T_Purse_init = some ⟨tc_Purse_init, td_Purse_init, .seq its_Purse_init.toArray tn_Purse_init, ts_Purse_init⟩)
    (vT_Purse_init : Vals [V.ref t_rows] its_Purse_init)
    (l_Purse_at : K.lookup f_Purse_at = some ⟨oc_Purse_at, od_Purse_at, .func (PySem.W.fnOf "at" "Purse.at" (defArgs s_Purse_at) (defBody s_Purse_at) (defScope s_Purse_at) .none kV_Purse_at dc_Purse_at pm_Purse_at an_Purse_at cd_Purse_at ct_Purse_at), sl_Purse_at⟩)
    (c_Purse_at : PySem.W.codeIn K cd_Purse_at "Purse.at" = true)
    (k_Purse_at : PySem.W.keepIn K (.ref f_Purse_at) = true)
    (l_Purse_coins : K.lookup f_Purse_coins = some ⟨oc_Purse_coins, od_Purse_coins, .func (PySem.W.fnOf "coins" "Purse.coins" (defArgs s_Purse_coins) (defBody s_Purse_coins) (defScope s_Purse_coins) .none kV_Purse_coins dc_Purse_coins pm_Purse_coins an_Purse_coins cd_Purse_coins ct_Purse_coins), sl_Purse_coins⟩)
    (c_Purse_coins : PySem.W.codeIn K cd_Purse_coins "Purse.coins" = true)
    (k_Purse_coins : PySem.W.keepIn K (.ref f_Purse_coins) = true)
    (l_Purse_eq : K.lookup f_Purse_eq = some ⟨oc_Purse_eq, od_Purse_eq, .func (PySem.W.fnOf "__eq__" "Purse.__eq__" (defArgs s_Purse_eq) (defBody s_Purse_eq) (defScope s_Purse_eq) .none kV_Purse_eq dc_Purse_eq pm_Purse_eq an_Purse_eq cd_Purse_eq ct_Purse_eq), sl_Purse_eq⟩)
    (c_Purse_eq : PySem.W.codeIn K cd_Purse_eq "Purse.__eq__" = true)
    (k_Purse_eq : PySem.W.keepIn K (.ref f_Purse_eq) = true)
    (l_Purse_len : K.lookup f_Purse_len = some ⟨oc_Purse_len, od_Purse_len, .func (PySem.W.fnOf "__len__" "Purse.__len__" (defArgs s_Purse_len) (defBody s_Purse_len) (defScope s_Purse_len) .none kV_Purse_len dc_Purse_len pm_Purse_len an_Purse_len cd_Purse_len ct_Purse_len), sl_Purse_len⟩)
    (c_Purse_len : PySem.W.codeIn K cd_Purse_len "Purse.__len__" = true)
    (k_Purse_len : PySem.W.keepIn K (.ref f_Purse_len) = true)
    (l_Purse_repr : K.lookup f_Purse_repr = some ⟨oc_Purse_repr, od_Purse_repr, .func (PySem.W.fnOf "__repr__" "Purse.__repr__" (defArgs s_Purse_repr) (defBody s_Purse_repr) (defScope s_Purse_repr) .none kV_Purse_repr dc_Purse_repr pm_Purse_repr an_Purse_repr cd_Purse_repr ct_Purse_repr), sl_Purse_repr⟩)
    (c_Purse_repr : PySem.W.codeIn K cd_Purse_repr "Purse.__repr__" = true)
    (k_Purse_repr : PySem.W.keepIn K (.ref f_Purse_repr) = true)
    (l_l_cell : K.lookup f_l_cell = some ⟨oc_l_cell, od_l_cell, .func (PySem.W.fnOf "_law_cell" "_law_cell" (defArgs s_l_cell) (defBody s_l_cell) (defScope s_l_cell) .none kV_l_cell dc_l_cell pm_l_cell an_l_cell cd_l_cell ct_l_cell), sl_l_cell⟩)
    (c_l_cell : PySem.W.codeIn K cd_l_cell "_law_cell" = true)
    (k_l_cell : PySem.W.keepIn K (.ref f_l_cell) = true)
    (l_l_digits : K.lookup f_l_digits = some ⟨oc_l_digits, od_l_digits, .func (PySem.W.fnOf "_law_digits" "_law_digits" (defArgs s_l_digits) (defBody s_l_digits) (defScope s_l_digits) .none kV_l_digits dc_l_digits pm_l_digits an_l_digits cd_l_digits ct_l_digits), sl_l_digits⟩)
    (c_l_digits : PySem.W.codeIn K cd_l_digits "_law_digits" = true)
    (k_l_digits : PySem.W.keepIn K (.ref f_l_digits) = true)
    (l_l_names : K.lookup f_l_names = some ⟨oc_l_names, od_l_names, .func (PySem.W.fnOf "_law_names" "_law_names" (defArgs s_l_names) (defBody s_l_names) (defScope s_l_names) .none kV_l_names dc_l_names pm_l_names an_l_names cd_l_names ct_l_names), sl_l_names⟩)
    (c_l_names : PySem.W.codeIn K cd_l_names "_law_names" = true)
    (k_l_names : PySem.W.keepIn K (.ref f_l_names) = true)
    (l_l_frac : K.lookup f_l_frac = some ⟨oc_l_frac, od_l_frac, .func (PySem.W.fnOf "_law_frac" "_law_frac" (defArgs s_l_frac) (defBody s_l_frac) (defScope s_l_frac) .none kV_l_frac dc_l_frac pm_l_frac an_l_frac cd_l_frac ct_l_frac), sl_l_frac⟩)
    (c_l_frac : PySem.W.codeIn K cd_l_frac "_law_frac" = true)
    (k_l_frac : PySem.W.keepIn K (.ref f_l_frac) = true)
    (l_l_plus : K.lookup f_l_plus = some ⟨oc_l_plus, od_l_plus, .func (PySem.W.fnOf "_law_plus" "_law_plus" (defArgs s_l_plus) (defBody s_l_plus) (defScope s_l_plus) .none kV_l_plus dc_l_plus pm_l_plus an_l_plus cd_l_plus ct_l_plus), sl_l_plus⟩)
    (c_l_plus : PySem.W.codeIn K cd_l_plus "_law_plus" = true)
    (k_l_plus : PySem.W.keepIn K (.ref f_l_plus) = true)
    (l_l_add : K.lookup f_l_add = some ⟨oc_l_add, od_l_add, .func (PySem.W.fnOf "_law_add" "_law_add" (defArgs s_l_add) (defBody s_l_add) (defScope s_l_add) .none kV_l_add dc_l_add pm_l_add an_l_add cd_l_add ct_l_add), sl_l_add⟩)
    (c_l_add : PySem.W.codeIn K cd_l_add "_law_add" = true)
    (k_l_add : PySem.W.keepIn K (.ref f_l_add) = true)
    (l_l_due : K.lookup f_l_due = some ⟨oc_l_due, od_l_due, .func (PySem.W.fnOf "_law_due" "_law_due" (defArgs s_l_due) (defBody s_l_due) (defScope s_l_due) .none kV_l_due dc_l_due pm_l_due an_l_due cd_l_due ct_l_due), sl_l_due⟩)
    (c_l_due : PySem.W.codeIn K cd_l_due "_law_due" = true)
    (k_l_due : PySem.W.keepIn K (.ref f_l_due) = true)
    (l_l_whole : K.lookup f_l_whole = some ⟨oc_l_whole, od_l_whole, .func (PySem.W.fnOf "_law_whole" "_law_whole" (defArgs s_l_whole) (defBody s_l_whole) (defScope s_l_whole) .none kV_l_whole dc_l_whole pm_l_whole an_l_whole cd_l_whole ct_l_whole), sl_l_whole⟩)
    (c_l_whole : PySem.W.codeIn K cd_l_whole "_law_whole" = true)
    (k_l_whole : PySem.W.keepIn K (.ref f_l_whole) = true)
    (l_l_told : K.lookup f_l_told = some ⟨oc_l_told, od_l_told, .func (PySem.W.fnOf "_law_told" "_law_told" (defArgs s_l_told) (defBody s_l_told) (defScope s_l_told) .none kV_l_told dc_l_told pm_l_told an_l_told cd_l_told ct_l_told), sl_l_told⟩)
    (c_l_told : PySem.W.codeIn K cd_l_told "_law_told" = true)
    (k_l_told : PySem.W.keepIn K (.ref f_l_told) = true)
    (l_l_same : K.lookup f_l_same = some ⟨oc_l_same, od_l_same, .func (PySem.W.fnOf "_law_same" "_law_same" (defArgs s_l_same) (defBody s_l_same) (defScope s_l_same) .none kV_l_same dc_l_same pm_l_same an_l_same cd_l_same ct_l_same), sl_l_same⟩)
    (c_l_same : PySem.W.codeIn K cd_l_same "_law_same" = true)
    (k_l_same : PySem.W.keepIn K (.ref f_l_same) = true)
    (l_law : K.lookup f_law = some ⟨oc_law, od_law, .func (PySem.W.fnOf "law" "law" (defArgs s_law) (defBody s_law) (defScope s_law) .none kV_law dc_law pm_law an_law cd_law ct_law), sl_law⟩)
    (c_law : PySem.W.codeIn K cd_law "law" = true)
    (k_law : PySem.W.keepIn K (.ref f_law) = true)
    (h_kp_Part : PySem.W.keepIn K (.ref C_Part) = true)
    (pg_Part : PySem.W.plainGet K C_Part Str.empty = true)
    (hd_Part : PySem.W.hasDictIn K C_Part = true)
    (po_Part : PySem.W.plainOver K C_Part = true)
    (sa_Part : PySem.W.findIn K (.ref C_Part) "__setattr__" = some (some (.builtin "object.__setattr__")))
    (mk_Part : PySem.W.makesIn K C_Part = true)
    (if_Part : PySem.W.isFn K (.ref f_Part_init) = true)
    (mf_Part_plus : PySem.W.isFn K (.ref f_Part_plus) = true)
    (mf_Part_sign : PySem.W.isFn K (.ref f_Part_sign) = true)
    (mf_Part_eq : PySem.W.isFn K (.ref f_Part_eq) = true)
    (mf_Part_repr : PySem.W.isFn K (.ref f_Part_repr) = true)
    (h_na_Part_top : PySem.W.findIn K (.ref C_Part) "top" = some none)
    (h_na_Part_low : PySem.W.findIn K (.ref C_Part) "low" = some none)
    (h_mro_Part : PySem.W.mroIn K C_Part (.type "object") = some true)
    (h_cc_Part : PySem.W.findIn K (.ref C_Part) "__class__" = some (some (.builtin "object.__class__")))
    (h_ff_Part : PySem.W.findIn K (.ref C_Part) "__format__" = some (some (.builtin "object.__format__")))
    (h_fs_Part : PySem.W.findIn K (.ref C_Part) "__str__" = some (some (.builtin "object.__str__")))
    (h_ne_Part : PySem.W.findIn K (.ref C_Part) "__ne__" = some (some (.builtin "object.__ne__")))
    (h_nf_Part_Part : PySem.W.notFirst K C_Part (.ref C_Part) = true)
    (h_kp_Purse : PySem.W.keepIn K (.ref C_Purse) = true)
    (pg_Purse : PySem.W.plainGet K C_Purse Str.empty = true)
    (hd_Purse : PySem.W.hasDictIn K C_Purse = true)
    (po_Purse : PySem.W.plainOver K C_Purse = true)
    (sa_Purse : PySem.W.findIn K (.ref C_Purse) "__setattr__" = some (some (.builtin "object.__setattr__")))
    (mk_Purse : PySem.W.makesIn K C_Purse = true)
    (if_Purse : PySem.W.isFn K (.ref f_Purse_init) = true)
    (mf_Purse_at : PySem.W.isFn K (.ref f_Purse_at) = true)
    (mf_Purse_coins : PySem.W.isFn K (.ref f_Purse_coins) = true)
    (mf_Purse_eq : PySem.W.isFn K (.ref f_Purse_eq) = true)
    (mf_Purse_len : PySem.W.isFn K (.ref f_Purse_len) = true)
    (mf_Purse_repr : PySem.W.isFn K (.ref f_Purse_repr) = true)
    (h_na_Purse__held : PySem.W.findIn K (.ref C_Purse) "_held" = some none)
    (h_mro_Purse : PySem.W.mroIn K C_Purse (.type "object") = some true)
    (h_cc_Purse : PySem.W.findIn K (.ref C_Purse) "__class__" = some (some (.builtin "object.__class__")))
    (ki_Purse : PySem.W.isClsIn K C_Purse = true)
    (kt_Purse : PySem.W.typeIn K (.ref C_Purse) = some (.type "type"))
    (ks_list_Purse : PySem.W.subIn K (.type "list") (.ref C_Purse) = some false)
    (ks_str_Purse : PySem.W.subIn K (.type "str") (.ref C_Purse) = some false)
    (ks_Part_Purse : PySem.W.subIn K (.ref C_Part) (.ref C_Purse) = some false)
    (kn_Part_Purse : ¬ C_Part = C_Purse)
    (h_nf_Purse_Purse : PySem.W.notFirst K C_Purse (.ref C_Purse) = true)
    (h_nf_list_Purse : PySem.W.notFirst K C_Purse (.type "list") = true)
    (h_nf_str_Purse : PySem.W.notFirst K C_Purse (.type "str") = true)
    (h_nf_Part_Purse : PySem.W.notFirst K C_Purse (.ref C_Part) = true)
    (h_cget : PySem.W.specialIn K (.builtin "object.__class__") "__get__" = some (some (.builtin "getset_descriptor.__get__")))
    (h_ctk : PySem.W.takesIn K (.builtin "object.__class__") = some true)
    (lE_t_rows : K.lookup t_rows = some ⟨.type "tuple", etd_t_rows, .seq eti_t_rows etn_t_rows, ets_t_rows⟩)
    (vE_t_rows : Vals [] eti_t_rows.toList)
    (zE_t_rows : eti_t_rows.size ≤ sizeLine)
    (z_len : PySem.W.nsIn K mainGlobals "len" = some none)
    (z_range : PySem.W.nsIn K mainGlobals "range" = some none)
    (z_isinstance : PySem.W.nsIn K mainGlobals "isinstance" = some none)
    (z_repr : PySem.W.nsIn K mainGlobals "repr" = some none)
    (z_dict : PySem.W.nsIn K mainGlobals "dict" = some none)
    (z_sorted : PySem.W.nsIn K mainGlobals "sorted" = some none)
    (z_abs : PySem.W.nsIn K mainGlobals "abs" = some none)
    (z_list : PySem.W.nsIn K mainGlobals "list" = some none)
    (z_tuple : PySem.W.nsIn K mainGlobals "tuple" = some none)
    (z_all : PySem.W.nsIn K mainGlobals "all" = some none)
    (z_str : PySem.W.nsIn K mainGlobals "str" = some none)
    (z_int : PySem.W.nsIn K mainGlobals "int" = some none)
    (z_bool : PySem.W.nsIn K mainGlobals "bool" = some none)
    (b_gcd : PySem.W.nsIn K mainGlobals "gcd" = some (some (.builtin "math.gcd")))
    : ∃ fd : FuncData, (∀ (s : Shared) (v : Value), BindsTo s fd ⟨[v], []⟩ [("_law_script", v)]) ∧ ∀ base : Heap, K.In base → base.Ns mainGlobals mg → FnG P w K mg base CX0 8 fa fd ["_law_script"] (spLaw K) := by
  have e := (PySem.W.mg_of X G g_law).symm.trans hfa
  cases e
  have T : Tx ⟨C_Part, C_Purse, f_Part_init, (PySem.W.fnOf "__init__" "Part.__init__" (defArgs s_Part_init) (defBody s_Part_init) (defScope s_Part_init) (.ref T_Part_init) kV_Part_init dc_Part_init pm_Part_init an_Part_init cd_Part_init ct_Part_init), f_Part_plus, (PySem.W.fnOf "plus" "Part.plus" (defArgs s_Part_plus) (defBody s_Part_plus) (defScope s_Part_plus) .none kV_Part_plus dc_Part_plus pm_Part_plus an_Part_plus cd_Part_plus ct_Part_plus), f_Part_sign, (PySem.W.fnOf "sign" "Part.sign" (defArgs s_Part_sign) (defBody s_Part_sign) (defScope s_Part_sign) .none kV_Part_sign dc_Part_sign pm_Part_sign an_Part_sign cd_Part_sign ct_Part_sign), f_Part_eq, (PySem.W.fnOf "__eq__" "Part.__eq__" (defArgs s_Part_eq) (defBody s_Part_eq) (defScope s_Part_eq) .none kV_Part_eq dc_Part_eq pm_Part_eq an_Part_eq cd_Part_eq ct_Part_eq), f_Part_repr, (PySem.W.fnOf "__repr__" "Part.__repr__" (defArgs s_Part_repr) (defBody s_Part_repr) (defScope s_Part_repr) .none kV_Part_repr dc_Part_repr pm_Part_repr an_Part_repr cd_Part_repr ct_Part_repr), f_Purse_init, (PySem.W.fnOf "__init__" "Purse.__init__" (defArgs s_Purse_init) (defBody s_Purse_init) (defScope s_Purse_init) (.ref T_Purse_init) kV_Purse_init dc_Purse_init pm_Purse_init an_Purse_init cd_Purse_init ct_Purse_init), f_Purse_at, (PySem.W.fnOf "at" "Purse.at" (defArgs s_Purse_at) (defBody s_Purse_at) (defScope s_Purse_at) .none kV_Purse_at dc_Purse_at pm_Purse_at an_Purse_at cd_Purse_at ct_Purse_at), f_Purse_coins, (PySem.W.fnOf "coins" "Purse.coins" (defArgs s_Purse_coins) (defBody s_Purse_coins) (defScope s_Purse_coins) .none kV_Purse_coins dc_Purse_coins pm_Purse_coins an_Purse_coins cd_Purse_coins ct_Purse_coins), f_Purse_eq, (PySem.W.fnOf "__eq__" "Purse.__eq__" (defArgs s_Purse_eq) (defBody s_Purse_eq) (defScope s_Purse_eq) .none kV_Purse_eq dc_Purse_eq pm_Purse_eq an_Purse_eq cd_Purse_eq ct_Purse_eq), f_Purse_len, (PySem.W.fnOf "__len__" "Purse.__len__" (defArgs s_Purse_len) (defBody s_Purse_len) (defScope s_Purse_len) .none kV_Purse_len dc_Purse_len pm_Purse_len an_Purse_len cd_Purse_len ct_Purse_len), f_Purse_repr, (PySem.W.fnOf "__repr__" "Purse.__repr__" (defArgs s_Purse_repr) (defBody s_Purse_repr) (defScope s_Purse_repr) .none kV_Purse_repr dc_Purse_repr pm_Purse_repr an_Purse_repr cd_Purse_repr ct_Purse_repr), f_l_cell, (PySem.W.fnOf "_law_cell" "_law_cell" (defArgs s_l_cell) (defBody s_l_cell) (defScope s_l_cell) .none kV_l_cell dc_l_cell pm_l_cell an_l_cell cd_l_cell ct_l_cell), f_l_digits, (PySem.W.fnOf "_law_digits" "_law_digits" (defArgs s_l_digits) (defBody s_l_digits) (defScope s_l_digits) .none kV_l_digits dc_l_digits pm_l_digits an_l_digits cd_l_digits ct_l_digits), f_l_names, (PySem.W.fnOf "_law_names" "_law_names" (defArgs s_l_names) (defBody s_l_names) (defScope s_l_names) .none kV_l_names dc_l_names pm_l_names an_l_names cd_l_names ct_l_names), f_l_frac, (PySem.W.fnOf "_law_frac" "_law_frac" (defArgs s_l_frac) (defBody s_l_frac) (defScope s_l_frac) .none kV_l_frac dc_l_frac pm_l_frac an_l_frac cd_l_frac ct_l_frac), f_l_plus, (PySem.W.fnOf "_law_plus" "_law_plus" (defArgs s_l_plus) (defBody s_l_plus) (defScope s_l_plus) .none kV_l_plus dc_l_plus pm_l_plus an_l_plus cd_l_plus ct_l_plus), f_l_add, (PySem.W.fnOf "_law_add" "_law_add" (defArgs s_l_add) (defBody s_l_add) (defScope s_l_add) .none kV_l_add dc_l_add pm_l_add an_l_add cd_l_add ct_l_add), f_l_due, (PySem.W.fnOf "_law_due" "_law_due" (defArgs s_l_due) (defBody s_l_due) (defScope s_l_due) .none kV_l_due dc_l_due pm_l_due an_l_due cd_l_due ct_l_due), f_l_whole, (PySem.W.fnOf "_law_whole" "_law_whole" (defArgs s_l_whole) (defBody s_l_whole) (defScope s_l_whole) .none kV_l_whole dc_l_whole pm_l_whole an_l_whole cd_l_whole ct_l_whole), f_l_told, (PySem.W.fnOf "_law_told" "_law_told" (defArgs s_l_told) (defBody s_l_told) (defScope s_l_told) .none kV_l_told dc_l_told pm_l_told an_l_told cd_l_told ct_l_told), f_l_same, (PySem.W.fnOf "_law_same" "_law_same" (defArgs s_l_same) (defBody s_l_same) (defScope s_l_same) .none kV_l_same dc_l_same pm_l_same an_l_same cd_l_same ct_l_same), fa, (PySem.W.fnOf "law" "law" (defArgs s_law) (defBody s_law) (defScope s_law) .none kV_law dc_law pm_law an_law cd_law ct_law), t_rows⟩ K mg w := ⟨⟨⟨oc_Part_init, od_Part_init, .ref T_Part_init, kV_Part_init, dc_Part_init, pm_Part_init, an_Part_init, cd_Part_init, ct_Part_init, sl_Part_init, rfl, l_Part_init, c_Part_init, .inr ⟨List.cons_ne_nil _ _, T_Part_init, _, its_Part_init, tn_Part_init, rfl, lT_Part_init, rfl, vT_Part_init⟩, .inl rfl⟩, k_Part_init⟩, fun_mk (st := s_Part_plus) l_Part_plus c_Part_plus k_Part_plus, fun_mk (st := s_Part_sign) l_Part_sign c_Part_sign k_Part_sign, fun_mk (st := s_Part_eq) l_Part_eq c_Part_eq k_Part_eq, fun_mk (st := s_Part_repr) l_Part_repr c_Part_repr k_Part_repr, ⟨⟨oc_Purse_init, od_Purse_init, .ref T_Purse_init, kV_Purse_init, dc_Purse_init, pm_Purse_init, an_Purse_init, cd_Purse_init, ct_Purse_init, sl_Purse_init, rfl, l_Purse_init, c_Purse_init, .inr ⟨List.cons_ne_nil _ _, T_Purse_init, _, its_Purse_init, tn_Purse_init, rfl, lT_Purse_init, rfl, vT_Purse_init⟩, .inl rfl⟩, k_Purse_init⟩, fun_mk (st := s_Purse_at) l_Purse_at c_Purse_at k_Purse_at, fun_mk (st := s_Purse_coins) l_Purse_coins c_Purse_coins k_Purse_coins, fun_mk (st := s_Purse_eq) l_Purse_eq c_Purse_eq k_Purse_eq, fun_mk (st := s_Purse_len) l_Purse_len c_Purse_len k_Purse_len, fun_mk (st := s_Purse_repr) l_Purse_repr c_Purse_repr k_Purse_repr, fun_mk (st := s_l_cell) l_l_cell c_l_cell k_l_cell, PySem.W.mg_of X G g_l_cell, fun_mk (st := s_l_digits) l_l_digits c_l_digits k_l_digits, PySem.W.mg_of X G g_l_digits, fun_mk (st := s_l_names) l_l_names c_l_names k_l_names, PySem.W.mg_of X G g_l_names, fun_mk (st := s_l_frac) l_l_frac c_l_frac k_l_frac, PySem.W.mg_of X G g_l_frac, fun_mk (st := s_l_plus) l_l_plus c_l_plus k_l_plus, PySem.W.mg_of X G g_l_plus, fun_mk (st := s_l_add) l_l_add c_l_add k_l_add, PySem.W.mg_of X G g_l_add, fun_mk (st := s_l_due) l_l_due c_l_due k_l_due, PySem.W.mg_of X G g_l_due, fun_mk (st := s_l_whole) l_l_whole c_l_whole k_l_whole, PySem.W.mg_of X G g_l_whole, fun_mk (st := s_l_told) l_l_told c_l_told k_l_told, PySem.W.mg_of X G g_l_told, fun_mk (st := s_l_same) l_l_same c_l_same k_l_same, PySem.W.mg_of X G g_l_same, fun_mk (st := s_law) l_law c_law k_law, PySem.W.mg_of X G g_law, PySem.W.mg_of X G g_Part, h_kp_Part, ⟨pg_Part, hd_Part, po_Part, sa_Part⟩, ⟨mk_Part, in_Part, if_Part, h_kp_Part⟩, ⟨ma_Part_plus, mf_Part_plus, k_Part_plus⟩, ⟨ma_Part_sign, mf_Part_sign, k_Part_sign⟩, ⟨ma_Part_eq, mf_Part_eq, k_Part_eq⟩, ⟨ma_Part_repr, mf_Part_repr, k_Part_repr⟩, h_na_Part_top, h_na_Part_low, h_mro_Part, h_cc_Part, h_ff_Part, h_fs_Part, h_ne_Part, Own.kit_self, h_nf_Part_Part, PySem.W.mg_of X G g_Purse, h_kp_Purse, ⟨pg_Purse, hd_Purse, po_Purse, sa_Purse⟩, ⟨mk_Purse, in_Purse, if_Purse, h_kp_Purse⟩, ⟨ma_Purse_at, mf_Purse_at, k_Purse_at⟩, ⟨ma_Purse_coins, mf_Purse_coins, k_Purse_coins⟩, ⟨ma_Purse_eq, mf_Purse_eq, k_Purse_eq⟩, ⟨ma_Purse_len, mf_Purse_len, k_Purse_len⟩, ⟨ma_Purse_repr, mf_Purse_repr, k_Purse_repr⟩, h_na_Purse__held, h_mro_Purse, h_cc_Purse, Own.kit_self, Own.kit_ty ki_Purse kt_Purse ks_list_Purse, Own.kit_ty ki_Purse kt_Purse ks_str_Purse, Own.kit_own ki_Purse kt_Purse ks_Part_Purse kn_Part_Purse, h_nf_Purse_Purse, h_nf_list_Purse, h_nf_str_Purse, h_nf_Part_Purse, h_cget, h_ctk, ⟨_, _, _, lE_t_rows, rfl, rfl, zE_t_rows, vE_t_rows⟩, PySem.W.mg_none_of X G z_len, PySem.W.mg_none_of X G z_range, PySem.W.mg_none_of X G z_isinstance, PySem.W.mg_none_of X G z_repr, PySem.W.mg_none_of X G z_dict, PySem.W.mg_none_of X G z_sorted, PySem.W.mg_none_of X G z_abs, PySem.W.mg_none_of X G z_list, PySem.W.mg_none_of X G z_tuple, PySem.W.mg_none_of X G z_all, PySem.W.mg_none_of X G z_str, PySem.W.mg_none_of X G z_int, PySem.W.mg_none_of X G z_bool, PySem.W.mg_of X G b_gcd⟩
  exact ⟨_, fun s v => .of_eq rfl, fun base _ _ => ok_law T⟩
theorem walk {l : PySem.W.OpenLaw} {q : Program} {loose : List Str} {XP : (Str → Option Value) → Heap → Prop} {YP : World → Heap → Prop} {d : DefRec} {K : Params → PySem.W.Frag} (hn : l.most = some 63) (hdf : d.params.defaults = [])
    (hY : ∀ (w : World) (h : Heap), YP w h → (K w.params).In h)
    (F : ∀ (w : World) (mg : Str → Option Value) (fa : Addr) (h : Heap), (K w.params).In h → h.Ns mainGlobals mg → mg d.name = some (.ref fa) →
      ∃ fd : FuncData, (∀ (s : Shared) (u : Value), BindsTo s fd ⟨[u], []⟩ [("_law_script", u)]) ∧ ∀ base : Heap, (K w.params).In base → base.Ns mainGlobals mg → FnG l.prog w (K w.params) mg base CX0 8 fa fd ["_law_script"] (spLaw (K w.params))) :
    PySem.W.WalkO q loose XP YP l.row.toRowW d [] (fun f vs => PySem.call f vs) :=
  Own.walk_ofG (n := 63) (k := 8) (x := "_law_script") (CX := fun _ => CX0) (sp := fun w => spLaw (K w.params)) hn (by decide) hdf ⟨rfl, by decide, by decide⟩ hY F (fun _ _ a ns hl _ hS => ⟨a, ns, rfl, hS, hl, fun _ => rfl⟩) fun _ _ _ _ _ z => z
end My
open PySem PySem.W PyProof.Rows
set_option maxRecDepth 100000 in
set_option maxHeartbeats 0 in
theorem PySem.Challenge.cw_oneroof_k03_purses_made_holds : PySem.Challenge.rw_oneroof_k03_purses_made.Holds := by
  w_on; o_law; k_head; (case hw => w_witness2)
  k_fill
  refine My.walk (l := PySem.Challenge.rw_oneroof_k03_purses_made) rfl rfl (fun w h Y => PySem.W.kIn_of Y) ?F
  case F =>
    intro w mg fa h KX G hmg
    refine' My.all_mk KX G hmg ?g_l_cell ?g_l_digits ?g_l_names ?g_l_frac ?g_l_plus ?g_l_add ?g_l_due ?g_l_whole ?g_l_told ?g_l_same ?g_law ?g_Part ?in_Part ?ma_Part_plus ?ma_Part_sign ?ma_Part_eq ?ma_Part_repr ?g_Purse ?in_Purse ?ma_Purse_at ?ma_Purse_coins ?ma_Purse_eq ?ma_Purse_len ?ma_Purse_repr ?l_Part_init ?c_Part_init ?k_Part_init ?lT_Part_init ?vT_Part_init ?l_Part_plus ?c_Part_plus ?k_Part_plus ?l_Part_sign ?c_Part_sign ?k_Part_sign ?l_Part_eq ?c_Part_eq ?k_Part_eq ?l_Part_repr ?c_Part_repr ?k_Part_repr ?l_Purse_init ?c_Purse_init ?k_Purse_init ?lT_Purse_init ?vT_Purse_init ?l_Purse_at ?c_Purse_at ?k_Purse_at ?l_Purse_coins ?c_Purse_coins ?k_Purse_coins ?l_Purse_eq ?c_Purse_eq ?k_Purse_eq ?l_Purse_len ?c_Purse_len ?k_Purse_len ?l_Purse_repr ?c_Purse_repr ?k_Purse_repr ?l_l_cell ?c_l_cell ?k_l_cell ?l_l_digits ?c_l_digits ?k_l_digits ?l_l_names ?c_l_names ?k_l_names ?l_l_frac ?c_l_frac ?k_l_frac ?l_l_plus ?c_l_plus ?k_l_plus ?l_l_add ?c_l_add ?k_l_add ?l_l_due ?c_l_due ?k_l_due ?l_l_whole ?c_l_whole ?k_l_whole ?l_l_told ?c_l_told ?k_l_told ?l_l_same ?c_l_same ?k_l_same ?l_law ?c_law ?k_law ?h_kp_Part ?pg_Part ?hd_Part ?po_Part ?sa_Part ?mk_Part ?if_Part ?mf_Part_plus ?mf_Part_sign ?mf_Part_eq ?mf_Part_repr ?h_na_Part_top ?h_na_Part_low ?h_mro_Part ?h_cc_Part ?h_ff_Part ?h_fs_Part ?h_ne_Part ?h_nf_Part_Part ?h_kp_Purse ?pg_Purse ?hd_Purse ?po_Purse ?sa_Purse ?mk_Purse ?if_Purse ?mf_Purse_at ?mf_Purse_coins ?mf_Purse_eq ?mf_Purse_len ?mf_Purse_repr ?h_na_Purse__held ?h_mro_Purse ?h_cc_Purse ?ki_Purse ?kt_Purse ?ks_list_Purse ?ks_str_Purse ?ks_Part_Purse ?kn_Part_Purse ?h_nf_Purse_Purse ?h_nf_list_Purse ?h_nf_str_Purse ?h_nf_Part_Purse ?h_cget ?h_ctk ?lE_t_rows ?vE_t_rows ?zE_t_rows ?z_len ?z_range ?z_isinstance ?z_repr ?z_dict ?z_sorted ?z_abs ?z_list ?z_tuple ?z_all ?z_str ?z_int ?z_bool ?b_gcd
    case g_l_cell => k_is
    case g_l_digits => k_is
    case g_l_names => k_is
    case g_l_frac => k_is
    case g_l_plus => k_is
    case g_l_add => k_is
    case g_l_due => k_is
    case g_l_whole => k_is
    case g_l_told => k_is
    case g_l_same => k_is
    case g_law => k_is
    case g_Part => k_is
    case in_Part => k_is
    case ma_Part_plus => k_is
    case ma_Part_sign => k_is
    case ma_Part_eq => k_is
    case ma_Part_repr => k_is
    case g_Purse => k_is
    case in_Purse => k_is
    case ma_Purse_at => k_is
    case ma_Purse_coins => k_is
    case ma_Purse_eq => k_is
    case ma_Purse_len => k_is
    case ma_Purse_repr => k_is
    case l_Part_init => k_is
    case c_Part_init => k_is
    case k_Part_init => k_is
    case lT_Part_init => k_is
    case vT_Part_init => exact (.cons ⟨_, rfl⟩ .nil)
    case l_Part_plus => k_is
    case c_Part_plus => k_is
    case k_Part_plus => k_is
    case l_Part_sign => k_is
    case c_Part_sign => k_is
    case k_Part_sign => k_is
    case l_Part_eq => k_is
    case c_Part_eq => k_is
    case k_Part_eq => k_is
    case l_Part_repr => k_is
    case c_Part_repr => k_is
    case k_Part_repr => k_is
    case l_Purse_init => k_is
    case c_Purse_init => k_is
    case k_Purse_init => k_is
    case lT_Purse_init => k_is
    case vT_Purse_init => exact (.cons rfl .nil)
    case l_Purse_at => k_is
    case c_Purse_at => k_is
    case k_Purse_at => k_is
    case l_Purse_coins => k_is
    case c_Purse_coins => k_is
    case k_Purse_coins => k_is
    case l_Purse_eq => k_is
    case c_Purse_eq => k_is
    case k_Purse_eq => k_is
    case l_Purse_len => k_is
    case c_Purse_len => k_is
    case k_Purse_len => k_is
    case l_Purse_repr => k_is
    case c_Purse_repr => k_is
    case k_Purse_repr => k_is
    case l_l_cell => k_is
    case c_l_cell => k_is
    case k_l_cell => k_is
    case l_l_digits => k_is
    case c_l_digits => k_is
    case k_l_digits => k_is
    case l_l_names => k_is
    case c_l_names => k_is
    case k_l_names => k_is
    case l_l_frac => k_is
    case c_l_frac => k_is
    case k_l_frac => k_is
    case l_l_plus => k_is
    case c_l_plus => k_is
    case k_l_plus => k_is
    case l_l_add => k_is
    case c_l_add => k_is
    case k_l_add => k_is
    case l_l_due => k_is
    case c_l_due => k_is
    case k_l_due => k_is
    case l_l_whole => k_is
    case c_l_whole => k_is
    case k_l_whole => k_is
    case l_l_told => k_is
    case c_l_told => k_is
    case k_l_told => k_is
    case l_l_same => k_is
    case c_l_same => k_is
    case k_l_same => k_is
    case l_law => k_is
    case c_law => k_is
    case k_law => k_is
    case h_kp_Part => k_is
    case pg_Part => k_is
    case hd_Part => k_is
    case po_Part => k_is
    case sa_Part => k_is
    case mk_Part => k_is
    case if_Part => k_is
    case mf_Part_plus => k_is
    case mf_Part_sign => k_is
    case mf_Part_eq => k_is
    case mf_Part_repr => k_is
    case h_na_Part_top => k_is
    case h_na_Part_low => k_is
    case h_mro_Part => k_is
    case h_cc_Part => k_is
    case h_ff_Part => k_is
    case h_fs_Part => k_is
    case h_ne_Part => k_is
    case h_nf_Part_Part => k_is
    case h_kp_Purse => k_is
    case pg_Purse => k_is
    case hd_Purse => k_is
    case po_Purse => k_is
    case sa_Purse => k_is
    case mk_Purse => k_is
    case if_Purse => k_is
    case mf_Purse_at => k_is
    case mf_Purse_coins => k_is
    case mf_Purse_eq => k_is
    case mf_Purse_len => k_is
    case mf_Purse_repr => k_is
    case h_na_Purse__held => k_is
    case h_mro_Purse => k_is
    case h_cc_Purse => k_is
    case ki_Purse => k_is
    case kt_Purse => k_is
    case ks_list_Purse => k_is
    case ks_str_Purse => k_is
    case ks_Part_Purse => k_is
    case kn_Part_Purse => decide
    case h_nf_Purse_Purse => k_is
    case h_nf_list_Purse => k_is
    case h_nf_str_Purse => k_is
    case h_nf_Part_Purse => k_is
    case h_cget => k_is
    case h_ctk => k_is
    case lE_t_rows => k_is
    case vE_t_rows => exact .nil
    case zE_t_rows => exact Nat.le_of_ble_eq_true rfl
    case z_len => k_is
    case z_range => k_is
    case z_isinstance => k_is
    case z_repr => k_is
    case z_dict => k_is
    case z_sorted => k_is
    case z_abs => k_is
    case z_list => k_is
    case z_tuple => k_is
    case z_all => k_is
    case z_str => k_is
    case z_int => k_is
    case z_bool => k_is
    case b_gcd => k_is
