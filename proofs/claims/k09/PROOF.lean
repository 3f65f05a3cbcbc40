import PyProof.Rows.All
import Wide.All
import OpenK.AllK
import Wide.FinOn
import HandS.ForMost
import HandS.ClsMeth
import HandS.Defaults
import HandS.IsInst
import HandS.Star
import HandS.Codes
import HandS.RaiseMore
import HandS.Style
import KE.GoesEnum
import OpenK.KOps
import HandS.CallLocal
import HandS.Conv
import HandS.Exc
import HandS.Text
import HandS.TupAny
import HandS.OwnEq
import PySem.Challenge.RW_outermost_k09_stacks_that_are_changed
set_option Elab.async false
set_option linter.all false
set_option maxRecDepth 100000
set_option maxHeartbeats 4000000
section
/-! Own rules: str(x), x == y, x != y by an own class's methods (instances with a dict); C() without an __init__. -/
namespace Own
open PySem PySem.Spec PyProof.Rows L2

section
variable {prog : Program} {w : World} {M : Model} {A : Around} {E : Value → Shared → Prop} {s : Shared} {K : PySem.W.Frag} {x C f : Addr} {ox : Obj} {od : Option Obj}
/-- a special method that is a built-in's slot -/
theorem ifBound_B {name : Str} {id : String} {args : List Value} {Q : Option Value → Shared → Prop} (X : K.In s.heap) (I : PySem.W.InstAt s.heap x ox C od) (hs : PySem.W.findIn K (.ref C) name = some (some (.builtin id)))
    (hb : ∀ self, bindSpecial (.builtin id) self = pure (.builtin id, [self])) (h : wpAny M A (call (.builtin id) (.ref x :: args)) (fun v => Q (some v)) E s) : wpAny M A (callSpecialIfBound? (.ref x) name args) Q E s := by
  simp only [callSpecialIfBound?, bindSpecialIfBound?]
  refine wpAny_holding (wpAny_bind (wpAny_bind (wpAny_bind (I.type.here ((PySem.W.looks_findIn X hs).here ?_)))))
  refine wpAny_bind (wpAny_askSetting (wpAny_ite ?_))
  have fin : wpAny M A (call (.builtin id) ([.ref x] ++ args) >>= fun v => pure (some v)) Q E s := wpAny_bind (wpAny_mono h (fun v s' h' => wpAny_pure h') fun _ _ h' => h')
  split
  · exact wpAny_bind ((PySem.W.Looks.of_pure (hb _)).here (wpAny_pure (by exact fin)))
  · exact wpAny_tryCatch (wpAny_bind ((PySem.W.Looks.of_pure (hb _)).here (wpAny_pure (by exact fin))))
open Builtin in
/-- object.__ne__ asks the own __eq__ -/
theorem objNe {b : Value} {Q : Value → Shared → Prop} (hu : A.in1.units < cLine) (X : K.In s.heap) (I : PySem.W.InstAt s.heap x ox C od) (hm : PySem.W.mroIn K C (.type "object") = some true) (he : PySem.W.findIn K (.ref C) "__eq__" = some (some (.ref f))) (hf : PySem.W.isFn K (.ref f) = true)
    (h : wpAny (model prog w) A.in1 (call (.ref f) [.ref x, b]) (fun v s' => ∃ r, v = .bool r ∧ Q (.bool (!r)) s') E s) : wpAny (model prog w) A (call (.builtin "object.__ne__") [.ref x, b]) Q E s := by
  refine wpAny_call (codeAny_call_builtin PySem.F.cmp_object.ne.plain PySem.F.cmpEntry_ne (@PySem.W.check_slot (model prog w) _ _ s "object.__ne__" "object" "__ne__" (.ref x) [b] [] _ PySem.F.cmpKind_ne PySem.F.cmpSplit_ne (I.type.andThen (PySem.W.looks_mroIn X hm)) (PySem.F.cmpArgs_ne _ _) ?_))
  unfold Builtin.«object.__ne__»
  refine wpAny_bind (m := slotArgs "__ne__" 1 _) (wpAny_pure ?_)
  refine wpAny_bind (m := cRoomFor _ _) (wpAny_cRoomFor hu ?_)
  refine wpAny_bind (m := callSpecialIfBound? (.ref x) (Str.ofString "__eq__") _) (PySem.W.ifBound_K X I he hf (wpAny_mono h (fun r s' hq => ?_) fun _ _ y => y))
  obtain ⟨r, rfl, q⟩ := hq
  refine wpAny_bind (m := truthy (.bool r)) (wpAny_truthy_bool ?_)
  exact wpAny_pure q
/-- x != b where the class at C has an own __eq__ and object's __ne__ -/
theorem ne_K {b tb : Value} {Q : Value → Shared → Prop} (hu : A.units + 1 < cLine) (X : K.In s.heap) (I : PySem.W.InstAt s.heap x ox C od) (hb : PySem.W.Looks (model prog w) s.heap (typeOf b) tb) (hn : PySem.W.notFirst K C tb = true)
    (hs : PySem.W.findIn K (.ref C) "__ne__" = some (some (.builtin "object.__ne__"))) (hm : PySem.W.mroIn K C (.type "object") = some true) (he : PySem.W.findIn K (.ref C) "__eq__" = some (some (.ref f))) (hf : PySem.W.isFn K (.ref f) = true)
    (h : wpAny (model prog w) A.in1 (call (.ref f) [.ref x, b]) (fun v s' => ∃ r, v = .bool r ∧ Q (.bool (!r)) s') E s) : wpAny (model prog w) A (richCompare .NotEq (.ref x) b) Q E s := by
  have one : wpAny (model prog w) A (tryCompare (.ref x) (cmpInfo .NotEq).2.1 b) (fun r s' => ∃ v, r = some v ∧ Q v s') E s := by
    unfold tryCompare
    refine wpAny_bind (ifBound_B X I hs PySem.F.cmp_object.ne.bind (objNe (show A.units + 1 < cLine from hu) X I hm he hf (wpAny_mono h (fun v s' hv => ?_) fun _ _ e => e)))
    obtain ⟨r, rfl, q⟩ := hv
    exact ⟨r, rfl, wpAny_pure ⟨_, rfl, q⟩⟩
  unfold richCompare
  simp only [oneThing_ref]
  refine wpAny_holding (wpAny_bind (wpAny_cRoomFor (Nat.lt_of_succ_lt hu) ?_))
  refine wpAny_bind (I.type.here (wpAny_bind (hb.here ?_)))
  split
  · rename_i q
    have e : PySem.W.subIn K tb (.ref C) = some false := by
      rcases Bool.or_eq_true_iff.mp hn with e | e
      · rw [beq_iff_eq.mp e] at q; simp at q
      · exact beq_iff_eq.mp e
    refine wpAny_bind ((PySem.W.looks_subIn X e).here ?_)
    simp only [Bool.false_eq_true, if_false]
    refine wpAny_bind (wpAny_mono one (fun r s' z => ?_) fun _ _ e => e)
    obtain ⟨v, rfl, hq⟩ := z
    exact wpAny_pure hq
  · refine wpAny_bind (wpAny_pure ?_)
    simp only [Bool.false_eq_true, if_false]
    refine wpAny_bind (wpAny_mono one (fun r s' z => ?_) fun _ _ e => e)
    obtain ⟨v, rfl, hq⟩ := z
    exact wpAny_pure hq
end

/-! ### rules -/
/-- what str, ==, != and isinstance ask of an own class -/
structure OwnC (K : PySem.W.Frag) (C : Addr) (gs ge : Addr) : Prop where
  cl : Cls K C
  st : PySem.W.findIn K (.ref C) "__str__" = some (some (.ref gs))
  stf : PySem.W.isFn K (.ref gs) = true
  eq : PySem.W.findIn K (.ref C) "__eq__" = some (some (.ref ge))
  eqf : PySem.W.isFn K (.ref ge) = true
  ne : PySem.W.findIn K (.ref C) "__ne__" = some (some (.builtin "object.__ne__"))
  ca : PySem.W.findIn K (.ref C) "__class__" = some (some (.builtin "object.__class__"))
  cn : PySem.W.specialIn K (.builtin "object.__class__") "__get__" = some (some (.builtin "getset_descriptor.__get__"))
  ct : PySem.W.takesIn K (.builtin "object.__class__") = some true
  cm : PySem.W.mroIn K C (.type "object") = some true
theorem OwnC.ty {K : PySem.W.Frag} {C gs ge : Addr} (c : OwnC K C gs ge) {H : Hp} {a dx : Addr} {fs : List (Str × V)} (h : H a = some (.ins C dx fs)) : TyX K H (.ref a) (.ref C) :=
  .base (.ins h c.cl c.ca c.cn c.ct c.cm)
section
variable {X : Cx} {CX : CXT} {pins : List (Addr × Obj)} {σ : L2.St} {H : Hp} {s : Shared} {gs ge : Addr} {n : Nat} {sp : Sp} {E : XK}
theorem run_at {A : Around} {g : Addr} {Q : VK} {us : List Value} {ws : List V} (F : FnR X.prog X.w X.K X.mg X.base CX n g sp) (hr : Room n A) (e0 : Env0 X.prog X.w X.K X.mg X.base A X.stack s H) (hx : Passes CX X E) (I : Inv X pins σ H s) (r : Vals ws us) (h : sp ws H Q E) :
    codeAny (model X.prog X.w) A (.call (.ref g) ⟨us, []⟩) (fun r s' => match r with | .ok (.ret v) => EP X pins σ Q v s' | .ok _ => False | .error e => X.xe e s') s := by
  refine codeAny_mono (F A X.stack s H us ws Q E hr e0 r h) fun r s' hq => ?_
  cases r with
  | error e => exact hx pins σ H s e s' I hq
  | ok fl =>
    cases fl with
    | ret u => exact I.after hq
    | next => exact False.elim hq
    | brk => exact False.elim hq
    | cont => exact False.elim hq
/-- str(x): x an instance of a class whose __str__ is at gs -/
def rStrOwn (K : PySem.W.Frag) (gs : Addr) (sp : Sp) (E : XK) : List V → Hp → VK → Prop := fun xs H Q => ∃ a C dx fs ge, xs = [V.ref a] ∧ H a = some (.ins C dx fs) ∧ OwnC K C gs ge ∧ sp [.ref a] H (fun z H' => ∃ y, z = .str y ∧ Q z H') E
theorem call_strOwn (F : FnR X.prog X.w X.K X.mg X.base CX n gs sp) (hr : Room (n + 2) X.A) (hx : Passes CX X E) : CallR X (.type "str") (rStrOwn X.K gs sp E) := by
  intro pins s σ H xs us Q I r h
  obtain ⟨a, C, dx, fs, ge, rfl, ea, c, q⟩ := h
  obtain ⟨u, rfl, ru⟩ := r.one
  cases (show u = Value.ref a from ru)
  obtain ⟨mA, O, rr, _, _, _⟩ := ins_get I.hok ea
  obtain ⟨od, J, hl⟩ := O.look
  have hr2 : Room n X.A.in1.in1 := (show Room (n + 1) X.A.in1 from Room.in1 hr).in1
  refine PySem.W.kso_call hr2.units0 I.kIn J c.st c.stf (wpAny_mono (wpAny_call (run_at (us := [.ref a]) (ws := [.ref a]) F hr2 I.env0.in1.in1 hx I (.cons rfl .nil) q)) (fun w s' z => ?_) fun _ _ x => x)
  obtain ⟨z', H', I', rz, y, ey, qz⟩ := z
  subst ey
  obtain ⟨t, e⟩ := (show ∃ t, w = Value.str y t from rz)
  cases e
  exact ⟨.str y, H', I', ⟨t, rfl⟩, qz⟩
/-- x == y, x an instance of a class whose __eq__ is at ge, y anything that is not of a class below it -/
def rEqOwn (K : PySem.W.Frag) (ge : Addr) (sp : Sp) (E : XK) (f : Bool → Bool) : R2 := fun x y H Q => ∃ a C dx fs gs t, x = .ref a ∧ H a = some (.ins C dx fs) ∧ OwnC K C gs ge ∧ TyX K H y t ∧ PySem.W.notFirst K C t = true ∧ sp [x, y] H (fun z H' => ∃ b, z = .bl b ∧ Q (.bl (f b)) H') E
theorem op_eqOwn (F : FnR X.prog X.w X.K X.mg X.base CX n ge sp) (hr : Room n X.A) (hx : Passes CX X E) : OpR X (compareOp .Eq) (rEqOwn X.K ge sp E id) := by
  intro pins s σ H x y v u Q I rx ry h
  obtain ⟨a, C, dx, fs, gs, t, rfl, ea, c, ty, hn, q⟩ := h
  cases (show v = Value.ref a from rx)
  obtain ⟨mA, O, rr, _, _, _⟩ := ins_get I.hok ea
  obtain ⟨od, J, hl⟩ := O.look
  obtain ⟨P, Z, p, _⟩ := kit_of I ry ty
  obtain ⟨m, hF⟩ := I.fr
  show wpAny (model X.prog X.w) X.A (richCompare .Eq (.ref a) u) (EP X pins σ Q) X.xe s
  refine PySem.W.cmp_K (op := .Eq) (tb := t) hr.units0 hF I.ok.mod.kin J (Z.ty _ _ I.kIn p) hn c.eq c.eqf ?_
  refine wpAny_mono (wpAny_call (run_fnR (us := [.ref a, u]) (vs := [.ref a, y]) F hr hx I (.cons rfl (.cons ry .nil)) q)) (fun w s' z => ?_) fun _ _ x => x
  obtain ⟨z', H', I', rz, b, eb, qz⟩ := z
  subst eb
  cases (show w = Value.bool b from rz)
  exact ⟨.bl b, H', I', rfl, qz⟩
theorem op_neOwn (F : FnR X.prog X.w X.K X.mg X.base CX n ge sp) (hr : Room (n + 1) X.A) (hx : Passes CX X E) : OpR X (compareOp .NotEq) (rEqOwn X.K ge sp E not) := by
  intro pins s σ H x y v u Q I rx ry h
  obtain ⟨a, C, dx, fs, gs, t, rfl, ea, c, ty, hn, q⟩ := h
  cases (show v = Value.ref a from rx)
  obtain ⟨mA, O, rr, _, _, _⟩ := ins_get I.hok ea
  obtain ⟨od, J, hl⟩ := O.look
  obtain ⟨P, Z, p, _⟩ := kit_of I ry ty
  show wpAny (model X.prog X.w) X.A (richCompare .NotEq (.ref a) u) (EP X pins σ Q) X.xe s
  have hr1 : Room n X.A.in1 := hr.in1
  refine ne_K (hr1.units0) I.kIn J (Z.ty _ _ I.kIn p) hn c.ne c.cm c.eq c.eqf ?_
  refine wpAny_mono (wpAny_call (run_at (us := [.ref a, u]) (ws := [.ref a, y]) F hr1 I.env0.in1 hx I (.cons rfl (.cons ry .nil)) q)) (fun w s' z => ?_) fun _ _ x => x
  obtain ⟨z', H', I', rz, b, eb, qz⟩ := z
  subst eb
  cases (show w = Value.bool b from rz)
  exact ⟨b, rfl, .bl (!b), H', I', rfl, qz⟩
end

/-! ### C() of a class without an __init__ -/
structure MkO (K : PySem.W.Frag) (C : Addr) : Prop where
  makes : PySem.W.makesIn K C = true
  init : PySem.W.findIn K (.ref C) "__init__" = some (some (.builtin "object.__init__"))
  kp : PySem.W.keepIn K (.ref C) = true
  cm : PySem.W.mroIn K C (.type "object") = some true
def tMakeO (C : Addr) : TE := fun _ H Q => ∀ x dx, H x = none → H dx = none → dx ≠ x → Q (.ref x) (upd (upd H dx (.own x)) x (.ins C dx []))
section
variable {X : Cx} {pins : List (Addr × Obj)} {σ : L2.St} {H : Hp} {s : Shared} {C : Addr} {x : Str} {p pos : Pos}
theorem run_makeO {Q : VK} (M : MkO X.K C) (I : Inv X pins σ H s) (h : tMakeO C σ H Q) : wpAny (model X.prog X.w) X.A (call (.ref C) []) (EP X pins σ Q) X.xe s := by
  have hq := h (s.heap.objs.size + 1) s.heap.objs.size (I.hok.fresh (Nat.le_succ _)) (I.hok.fresh (Nat.le_refl _)) (Nat.ne_of_lt (Nat.lt_succ_self _))
  have I2 := Inv.made (C := C) I
  have hx : ((s.heap.push PySem.W.emptyDict).push (PySem.W.instObj C s.heap.objs.size)).get? (s.heap.objs.size + 1) = some (PySem.W.instObj C s.heap.objs.size) := by
    have := Heap.get?_push_size (s.heap.push PySem.W.emptyDict) (o := PySem.W.instObj C s.heap.objs.size) rfl
    rwa [Heap.size_push] at this
  have t1 : PySem.W.Looks (model X.prog X.w) ((s.heap.push PySem.W.emptyDict).push (PySem.W.instObj C s.heap.objs.size)) (typeOf (.ref (s.heap.objs.size + 1))) (.ref C) := (PySem.W.Looks.ld hx).andThen .now
  refine wpAny_call (make_map0 I.kIn M.makes M.init (fun self => PySem.W.Looks.of_pure (PySem.W.oi_bind self)) ?_)
  refine codeAny_call_builtin PySem.W.oi_plain PySem.W.entry_oi (@PySem.W.check_slot (model X.prog X.w) _ _ _ "object.__init__" "object" "__init__" (.ref (s.heap.objs.size + 1)) [] [] _ PySem.W.oi_kind PySem.W.oi_split (t1.andThen (PySem.W.looks_mroIn I2.kIn M.cm)) (PySem.W.oi_args _) ?_)
  rw [PySem.W.oi_run]
  exact wpAny_pure (And.intro rfl ⟨V.ref (s.heap.objs.size + 1), _, I2, rfl, hq⟩)
theorem pe_makeO (M : MkO X.K C) (hg : Gl X x) (hm : X.mg x = some (.ref C)) (hdb : (x == ("__debug__" : Str)) = false := by decide) : PE X (.Call (.Name x p) [] [] pos) (tMakeO C) := by
  refine ⟨fun pins s σ H Q I h => ?_⟩
  refine wpAny_Call_Name_kw (ld_glob I hg hm ?_ hdb)
  exact PySem.W.callWith_K0 I.kIn M.kp (run_makeO M I h)
end
end Own
end
section
/-! enumerate over a tuple, in a for. -/
namespace Own
open PySem PySem.Spec PyProof.Rows L2
open Sem (wp)
open AutoSeq1 (wpAny_loadPart')
abbrev enumO (n : Nat) : Obj := { cls := .type "enumerate", data := .fields #[.none, .bool false, .ref n, rawInt 0, .none, .none] }
theorem enum_mk1 {v : Value} {o : Obj} {Hh : Heap → Prop} (B : Begins v o Hh) :
    Meets (Builtin.«enumerate.__new__» ⟨[.type "enumerate", v], []⟩) (fun _ R z => Hh z.heap ∧ R (.ok (.ret (.ref (z.heap.push o).objs.size))) { z with heap := (z.heap.push o).push (enumO z.heap.objs.size) }) :=
  .of_wp fun pr wo Ar Re sh hyp => by
    obtain ⟨hp, ge, dr, tok, osx⟩ := sh
    obtain ⟨hb, hre⟩ := hyp
    have sbt := sub_enumerate
    have itr : ∀ {Aa : Around} {Ee : Value → Shared → Prop} {Qq : Value → Shared → Prop}, Qq (.ref hp.objs.size) ⟨hp.push o, ge, dr, tok, osx⟩ → wpAny (model pr wo) Aa (pyIter v) Qq Ee ⟨hp, ge, dr, tok, osx⟩ := fun q => B.iter pr wo _ _ ⟨hp, ge, dr, tok, osx⟩ _ hb q
    wp_walk using itr
    refine wpAny_stack_any fun stk => wpAny_pure ?_
    split
    · rename_i cl _ _ _ _ _
      cases (cl == Value.type "enumerate") <;> (wp_walk using itr; exact ⟨_, rfl, hre⟩)
    · wp_walk using itr
      exact ⟨_, rfl, hre⟩

section
variable {prog : Program} {w : World} {A : Around} {E : Value → Shared → Prop} {s : Shared}
theorem call_enum1 {v : Value} {o : Obj} {Hh : Heap → Prop} {Q : Value → Shared → Prop} (B : Begins v o Hh) (hb : Hh s.heap)
    (h : ∀ hp', IsEnum hp' (s.heap.objs.size + 1) s.heap.objs.size 0 .none → hp'.get? s.heap.objs.size = some o → (∀ b u, s.heap.get? b = some u → hp'.get? b = some u) → Q (.ref (s.heap.objs.size + 1)) { s with heap := hp' }) :
    wpAny (model prog w) A (call (.type "enumerate") [v]) Q E s := by
  refine callType_new F.called_enumerate (by decide) (F.typeCall_enumerate_1 _) (F.newCall_enumerate_1 _) (fun ob => F.args_object_init_2 ob _) F.entry_enumerate_new (enum_mk1 B) ⟨hb, ?_⟩
  have sz : (s.heap.push o).objs.size = s.heap.objs.size + 1 := Heap.size_push ..
  have ie : IsEnum ((s.heap.push o).push (enumO s.heap.objs.size)) (s.heap.objs.size + 1) s.heap.objs.size 0 .none := by
    have z := Heap.get?_push_size (s.heap.push o) (o := enumO s.heap.objs.size) rfl
    rw [sz] at z
    exact z
  show _ ∧ _
  rw [sz]
  exact ⟨⟨_, ie, rfl⟩, h _ ie (Heap.get?_push_of_some _ (Heap.get?_push_size _ B.free)) fun b u x => Heap.get?_push_of_some _ (Heap.get?_push_of_some _ x)⟩
end
theorem drawsEnd {prog : Program} {w : World} {A : Around} (hh : A.handled = none) (it t : Addr) (items : Array Value) (n : Nat) (hn : items.size ≤ n) :
    Draws prog w A it [it, t] n (fun _ _ => False) (fun j h => h.IsTupleIter it t j ∧ h.IsTuple t items ∧ n ≤ j) where
  live := fun _ _ st => let ⟨o, ho, _⟩ := st.1; ⟨o, ho⟩
  frame := fun _ _ _ st hk => ⟨st.1.at fun o e => hk it (by simp) o e, st.2.1.at fun o e => hk t (by simp) o e, st.2.2⟩
  item := fun i s Q E hi st _ => absurd hi (Nat.not_lt.mpr st.2.2)
  done := fun s Q E st hE => wpAny_nextOf_tuple_end hh st.1 st.2.1 (by simp; omega) hE
/-- the tuple at a as it stands at each turn, each item in a new pair -/
def IteT (K : PySem.W.Frag) (a : Addr) : It :=
  ⟨fun i H => ∃ (xs : List V) (x : V), SqT K H a xs ∧ xs[i]? = some x,
   fun i H v H' => ∃ T x, v = .ref T ∧ H T = none ∧ H' = upd H T (.tup [.int (i : Nat), x]) ∧ ∀ xs, SqT K H a xs → xs[i]? = some x,
   fun i H => ∃ xs : List V, SqT K H a xs ∧ xs.length ≤ i⟩
theorem turn_enumT {P : Program} {w : World} {K : PySem.W.Frag} {elts : List Expr} {kk : Nat} {tpos : Pos} (a e it : Addr) :
    Turn P w K (.Tuple elts kk tpos) (IteT K a) [e, it] e (fun i h => (∃ old, IsEnum h e it ((i : Nat) : Int) old) ∧ h.IsTupleIter it a i ∧ e ≠ it) where
  mem := by simp
  obj := fun i h st b hb => by
    have z : b = e ∨ b = it := by simpa using hb
    have k := st.2.1
    obtain ⟨u, he⟩ := st.1
    cases z with
    | inl z => exact z ▸ ⟨_, he, fun v q => nomatch q⟩
    | inr z =>
      obtain ⟨ob, h1, _, h3⟩ := k
      exact z ▸ ⟨ob, h1, fun v q => nomatch h3.symm.trans q⟩
  keep := fun i h h' st k => by
    obtain ⟨⟨old, he⟩, ⟨o, ho, hr⟩, hne⟩ := st
    exact ⟨⟨old, k e (by simp) _ he⟩, ⟨o, k it (by simp) o ho, hr⟩, hne⟩
  item := by
    intro X hP hw hK hc i pins s σ H E I hf st hg
    subst hP hw hK
    obtain ⟨⟨old, he⟩, hit, hne⟩ := st
    obtain ⟨xs, x, hq, hx⟩ := hg
    obtain ⟨its, rv, p, hz⟩ := I.tuple hq
    obtain ⟨u, hu, ru⟩ := rv.get hx
    have le : e < s.heap.objs.size := Heap.lt_size he
    have li : it < s.heap.objs.size := by obtain ⟨_, q, _⟩ := hit; exact Heap.lt_size q
    have ait : a ≠ it := fun z => by
      obtain ⟨o, ho, hcl, _⟩ := hit
      obtain ⟨o2, ho2, hcl2, _⟩ := p
      have q : o = o2 := Option.some.inj (ho.symm.trans ((congrArg _ z.symm).trans ho2))
      subst q
      exact absurd (hcl.symm.trans hcl2) (by decide)
    have ae : e ≠ a := fun z => by
      obtain ⟨o2, ho2, hcl2, _⟩ := p
      have q := Option.some.inj ((show s.heap.get? e = some _ from he).symm.trans ((congrArg _ z).trans ho2))
      subst q
      exact absurd (show Value.type "enumerate" = Value.type "tuple" from hcl2) (by decide)
    have D := Draws.tuple (prog := X.prog) (w := X.w) (A := X.A.in1) (show X.A.in1.handled = none from I.ok.hd hc) it a ait its.toArray
    have hlt : i < its.toArray.size := by
      have q := (List.getElem?_eq_some_iff.mp hu).1
      simpa using q
    refine wpAny_pyNext_enum_itemD D he ⟨hit, p⟩ hlt hne (by simp [hne, ae]) fun y h' tk hP ho hit' hT hsz hk => ?_
    have ey : y = u := by
      have q : its.toArray[i]? = some u := by simpa using hu
      exact Option.some.inj (hP.symm.trans q)
    subst ey
    refine ⟨_, rfl, wpAny_letOwnedTupleGo_enum (s := { s with heap := h', toks := tk + 1 }) ho fun h2 he2 sb => ?_⟩
    have nel : s.heap.objs.size ≠ e := Nat.ne_of_gt le
    have new : ObjOk X.prog X.w (upd H s.heap.objs.size (.tup [.int (i : Nat), x])) h2 s.heap.objs.size (.tup [.int (i : Nat), x]) :=
      ⟨by show 2 ≤ sizeLine; decide, [.int i tk, y], .cons ⟨_, rfl⟩ (.cons ru .nil), ⟨_, (sb.2 _ nel).trans hT, rfl, _, rfl⟩⟩
    have J : Inv X pins σ (upd H s.heap.objs.size (.tup [.int (i : Nat), x])) { s with heap := h2, toks := tk + 1 } :=
      I.turnedNew (ch := [e, it]) (fun b ob hb q => (sb.2 b (fun z => hb (by simp [z]))).trans (hk b ob (fun z => hb (by simp [z])) (fun z => hb (by simp [z])) q)) hf (Nat.le_refl _) new
    obtain ⟨oi, hoi, hri⟩ := hit'.1
    refine ⟨.ref s.heap.objs.size, _, J, rfl, ⟨_, x, rfl, I.hok.fresh (Nat.le_refl _), rfl, fun ys hy => ?_⟩, ⟨⟨y, ?_⟩, ⟨oi, (sb.2 it (Ne.symm hne)).trans hoi, hri⟩, hne⟩, fun b hb => ?_⟩
    · rw [I.tuple_inj hy hq]
      exact hx
    · rw [(by omega : ((i + 1 : Nat) : Int) = (i : Int) + 1)]
      exact he2
    · have lb : b < s.heap.objs.size := by
        rcases (by simpa using hb : b = e ∨ b = it) with z | z <;> rw [z] <;> assumption
      rw [upd_ne (Nat.ne_of_lt lb)]
      exact (hf b hb).1
  done := by
    intro X hP hw hK hc i pins s σ H E I hf st hg
    subst hP hw hK
    have hit := st.2.1
    obtain ⟨u, he⟩ := st.1
    obtain ⟨xs, hq, hx⟩ := hg
    obtain ⟨its, rv, p, hz⟩ := I.tuple hq
    have hl := rv.length
    have D := drawsEnd (prog := X.prog) (w := X.w) (A := X.A.in1) (show X.A.in1.handled = none from I.ok.hd hc) it a its.toArray i (by simp; omega)
    obtain ⟨f0, f1, f2, f3, f4, f5⟩ := hf it (by simp)
    exact wpAny_pyNext_enum_endD D he ⟨hit, p, Nat.le_refl _⟩ fun h' eb => ⟨rfl, I.turned (t' := s.toks) (fun b o hb q => eb b o hb q) f0 f1 f3 f4 f5⟩
  self := fun A i s Q E st h => let ⟨⟨_, he⟩, _⟩ := st; wpAny_pyIter_enum he h
/-- enumerate of a list or of a tuple -/
def iEnumS (K : PySem.W.Frag) (ta : TA) : TI := fun σ H R => ta σ H fun vs H1 => ∃ a xs, vs = [.ref a] ∧ ((SqL K H1 a xs ∧ R (Ite K a) H1) ∨ (SqT K H1 a xs ∧ R (IteT K a) H1))
theorem pi_enumS {X : Cx} {e : Expr} {ta : TA} {p pos tpos : Pos} {elts : List Expr} {kk : Nat} (hg : Gl X "enumerate") (hm : X.mg "enumerate" = none) (ha : PA X [e] ta) (hs : starEach [e] X.env = [(false, eval e X.env)] := by rfl) :
    PI X (.Tuple elts kk tpos) (.Call (.Name "enumerate" p) [e] [] pos) (iEnumS X.K ta) := ⟨fun pins s σ H R I h => by
  refine Call_ (ld_blt I hg hm boot_enumerate (PyProof.Rows.callWith_type1 (thn (ha.run pos pins s σ H _ I h) fun us s1 w1 => ?_) hs rfl))
  obtain ⟨vs, H1, J, rr, a, xs, ex, q⟩ := w1
  subst ex
  have ru : us = [.ref a] := by
    cases rr with
    | cons r t => cases t; cases r; rfl
  subst ru
  have fpe : ∀ b ∈ [s1.heap.objs.size + 1, s1.heap.objs.size], FpOk X pins H1 b := fun b hb => by
    have hle : s1.heap.objs.size ≤ b := by
      have z : b = s1.heap.objs.size + 1 ∨ b = s1.heap.objs.size := by simpa using hb
      omega
    exact J.fpOk hle (J.hok.fresh hle)
  rcases q with ⟨hq, q⟩ | ⟨hq, q⟩
  · obtain ⟨its, rv, pl, hz⟩ := J.list hq
    exact call_enumerate_list pl.isList fun h' he hit hsz hk => wpAny_pyIter_enum he
      ⟨s1.heap.objs.size + 1, [s1.heap.objs.size + 1, s1.heap.objs.size], _, _, H1, rfl, (J.kept (t' := s1.toks) hk : Inv X pins σ H1 { s1 with heap := h' }), turn_enum a (s1.heap.objs.size + 1) s1.heap.objs.size, ⟨⟨.none, he⟩, hit, Nat.succ_ne_self _⟩, fpe, q⟩
  · obtain ⟨its, rv, pl, hz⟩ := J.tuple hq
    refine call_enum1 (begins_tuple a its.toArray) pl fun h' he hit hk => wpAny_pyIter_enum he ?_
    exact ⟨s1.heap.objs.size + 1, [s1.heap.objs.size + 1, s1.heap.objs.size], _, _, H1, rfl, (J.kept (t' := s1.toks) hk : Inv X pins σ H1 { s1 with heap := h' }), turn_enumT a (s1.heap.objs.size + 1) s1.heap.objs.size, ⟨⟨.none, he⟩, ⟨_, hit, rfl, rfl⟩, Nat.succ_ne_self _⟩, fpe, q⟩⟩
end Own
end
section
/-! More own rules: len(x) by an own __len__, a class that a local holds, lists and tuples by isinstance, walks over enumerate. -/
namespace Own
open PySem PySem.Spec PyProof.Rows L2
section
variable {X : Cx} {CX : CXT} {pins : List (Addr × Obj)} {σ : L2.St} {H : Hp} {s : Shared} {gl : Addr} {n : Nat} {sp : Sp} {E : XK}
/-- len(x): x an instance of a class whose __len__ is at gl -/
def rLenOwn (K : PySem.W.Frag) (gl : Addr) (sp : Sp) (E : XK) : List V → Hp → VK → Prop := fun xs H Q => ∃ a C dx fs, xs = [V.ref a] ∧ H a = some (.ins C dx fs) ∧
  PySem.W.findIn K (.ref C) "__len__" = some (some (.ref gl)) ∧ PySem.W.isFn K (.ref gl) = true ∧ sp [.ref a] H (fun z H' => ∃ k : Int, z = .int k ∧ 0 ≤ k ∧ k < 2 ^ 63 ∧ Q z H') E
theorem call_lenOwn (F : FnR X.prog X.w X.K X.mg X.base CX n gl sp) (hr : Room (n + 1) X.A) (hx : Passes CX X E) : CallR X (.builtin "len") (rLenOwn X.K gl sp E) := by
  intro pins s σ H xs us Q I r h
  obtain ⟨a, C, dx, fs, rfl, ea, hl, hf, q⟩ := h
  obtain ⟨u, rfl, ru⟩ := r.one
  cases (show u = Value.ref a from ru)
  obtain ⟨mA, O, rr, _, _, _⟩ := ins_get I.hok ea
  obtain ⟨od, J, _⟩ := O.look
  have hr1 : Room n X.A.in1 := hr.in1
  obtain ⟨m, hF⟩ := I.fr
  refine PySem.W.len_K hF I.ok.mod.kin J hl hf (wpAny_mono (wpAny_call (run_at (us := [.ref a]) (ws := [.ref a]) F hr1 I.env0.in1 hx I (.cons rfl .nil) q)) (fun w s' z => ?_) fun _ _ x => x)
  obtain ⟨z', H', I', rz, k, ek, k0, k1, qz⟩ := z
  subst ek
  obtain ⟨t, e⟩ := (show ∃ t, w = Value.int k t from rz)
  cases e
  exact ⟨⟨k0, k1⟩, .int k, H', I'.tok _, ⟨_, rfl⟩, qz⟩
end
/-! ### C(..), C a class that a local holds -/
def tMakeL (i : Nat) (C : Addr) (sp : Sp) (dvs : List V) (E : XK) (t : TA) : TE := fun σ H Q => σ[i]? = some (some (.ref C)) ∧ tMake C sp dvs E t σ H Q
section
variable {X : Cx} {CX : CXT} {k i : Nat} {C f : Addr} {fd : FuncData} {ps : List Str} {sp : Sp} {dvs : List V} {ds : List Value} {E : XK} {x : Str} {p pos : Pos} {e : Expr} {es : List Expr} {t : TA}
theorem pe_makeL (M : Mk X.K C f) (F : FnOk X.prog X.w X.K X.mg X.base CX k f fd ps sp) (hr : Room (k + 1) X.A) (hN : X.N[i]? = some x) (hv : Vis X.env.scope x) (hb : Binds X.K fd ps ds) (hd : Vals dvs ds) (hx : Passes CX X E) (ha : PA X (e :: es) t)
    (hdb : (x == ("__debug__" : Str)) = false := by decide) (hcd : (x == ("__classdict__" : Str)) = false := by decide)
    (he : starEach (e :: es) X.env = (false, eval e X.env) :: starEach es X.env := by rfl) (hpl : (backTo pos (starEach es X.env)).any (·.1) = false := by rfl) : PE X (.Call (.Name x p) (e :: es) [] pos) (tMakeL i C sp dvs E t) := ⟨fun pins s σ H Q I ⟨hs, ht⟩ => by
  refine wpAny_Call_Name_kw (thn ((pe_var (pos := p) hN hv hdb hcd).run pins s σ H (fun y H1 => y = .ref C ∧ H1 = H) I ⟨.ref C, hs, rfl, rfl⟩) fun u s1 w1 => ?_)
  obtain ⟨y, H1, J, ry, ey, eh⟩ := w1
  subst ey eh
  cases ry
  exact PySem.W.callWith_K (h₀ := X.base) J.ok.mod.kin M.kp (thn (ha.run pos pins s1 σ _ _ J ht) fun us s2 ⟨vs, H2, J2, r, q⟩ => ⟨J2.kIn, run_make M F hr hb hd hx J2 r q⟩) he hpl⟩
theorem pe_makeL0 (M : Mk X.K C f) (F : FnOk X.prog X.w X.K X.mg X.base CX k f fd ps sp) (hr : Room (k + 1) X.A) (hN : X.N[i]? = some x) (hv : Vis X.env.scope x) (hb : Binds X.K fd ps ds) (hd : Vals dvs ds) (hx : Passes CX X E)
    (hdb : (x == ("__debug__" : Str)) = false := by decide) (hcd : (x == ("__classdict__" : Str)) = false := by decide) : PE X (.Call (.Name x p) [] [] pos) (tMakeL i C sp dvs E tNil) := ⟨fun pins s σ H Q I ⟨hs, ht⟩ => by
  refine wpAny_Call_Name_kw (thn ((pe_var (pos := p) hN hv hdb hcd).run pins s σ H (fun y H1 => y = .ref C ∧ H1 = H) I ⟨.ref C, hs, rfl, rfl⟩) fun u s1 w1 => ?_)
  obtain ⟨y, H1, J, ry, ey, eh⟩ := w1
  subst ey eh
  cases ry
  exact PySem.W.callWith_K0 J.kIn M.kp (run_make (us := []) M F hr hb hd hx J .nil ht)⟩
end
/-! ### lists and tuples -/
theorem tyL {K : PySem.W.Frag} {H : Hp} {a : Addr} {xs : List V} (h : SqL K H a xs) : TyX K H (.ref a) (.type "list") := by
  rcases h with (h | ⟨o, h⟩) | ⟨o, its, n, h, c, _⟩
  · exact .base (.lst h)
  · exact .base (.frz h)
  · exact .kList h c
theorem tyT {K : PySem.W.Frag} {H : Hp} {a : Addr} {xs : List V} (h : SqT K H a xs) : TyX K H (.ref a) (.type "tuple") := by
  rcases h with (h | ⟨o, h⟩) | ⟨o, its, n, h, c, _⟩
  · exact .base (.tup h)
  · exact .fTuple h
  · exact .kTuple h c
/-- a list or a tuple -/
def SqS (K : PySem.W.Frag) (H : Hp) (a : Addr) (xs : List V) : Prop := SqL K H a xs ∨ SqT K H a xs
theorem SqT.sm {K : PySem.W.Frag} {H H' : Hp} {a : Addr} {xs : List V} (h : SqT K H a xs) (e : Same H H') : SqT K H' a xs :=
  h.elim (fun h => .inl (h.elim (fun h => .inl (e _ _ h)) fun ⟨o, h⟩ => .inr ⟨o, e _ _ h⟩)) .inr
theorem SqS.sm {K : PySem.W.Frag} {H H' : Hp} {a : Addr} {xs : List V} (h : SqS K H a xs) (e : Same H H') : SqS K H' a xs := h.elim (fun h => .inl (e.seq h)) fun h => .inr (SqT.sm h e)
/-- a for over enumerate of a list -/
theorem for_enumL {K : PySem.W.Frag} {a : Addr} {xs : List V} {g : TG} {tb : TS} {D : Ends} {σ : L2.St} {H : Hp} (Pv : Nat → L2.St → Hp → Prop) (h0 : Pv 0 σ H) (hl : ∀ i τ G, i ≤ xs.length → Pv i τ G → SqL K G a xs)
    (hs : ∀ i x τ G T, xs[i]? = some x → Pv i τ G → G T = none → g (.ref T) τ (upd G T (.tup [.int (i : Nat), x])) fun τ2 G2 => tb { D with nx := Pv (i + 1), ct := Pv (i + 1), bk := D.nx } τ2 G2) (hd : ∀ τ G, Pv xs.length τ G → D.nx τ G) :
    ∃ W : Nat → Nat → L2.St → Hp → Prop, (∃ m, W 0 m σ H) ∧ ∀ i m τ G, W i m τ G →
      ((Ite K a).stop i G ∧ D.nx τ G) ∨ ((Ite K a).go i G ∧ ∃ N : L2.St → Hp → Prop, (∀ τ' G', N τ' G' → ∃ m', m' < m ∧ W (i + 1) m' τ' G') ∧ ∀ x G', (Ite K a).yld i G x G' → g x τ G' fun τ2 G2 => tb { D with nx := N, ct := N, bk := D.nx } τ2 G2) := by
  refine ⟨fun i m τ G => m = xs.length - i ∧ i ≤ xs.length ∧ Pv i τ G, ⟨xs.length, by simp, Nat.zero_le _, h0⟩, fun i m τ G z => ?_⟩
  obtain ⟨rfl, hi, p⟩ := z
  have q := hl i τ G hi p
  rcases Nat.lt_or_eq_of_le hi with lt | e
  · refine .inr ⟨⟨xs, xs[i], q, List.getElem?_eq_getElem lt⟩, Pv (i + 1), fun τ' G' p' => ⟨xs.length - (i + 1), by omega, rfl, lt, p'⟩, fun y G' z => ?_⟩
    obtain ⟨T, x, rfl, hT, rfl, hx⟩ := z
    exact hs i x τ G T (hx xs q) p hT
  · exact .inl ⟨⟨xs, q, Nat.le_of_eq e.symm⟩, hd τ G (e ▸ p)⟩
/-- .. of a tuple -/
theorem for_enumT {K : PySem.W.Frag} {a : Addr} {xs : List V} {g : TG} {tb : TS} {D : Ends} {σ : L2.St} {H : Hp} (Pv : Nat → L2.St → Hp → Prop) (h0 : Pv 0 σ H) (hl : ∀ i τ G, i ≤ xs.length → Pv i τ G → SqT K G a xs)
    (hs : ∀ i x τ G T, xs[i]? = some x → Pv i τ G → G T = none → g (.ref T) τ (upd G T (.tup [.int (i : Nat), x])) fun τ2 G2 => tb { D with nx := Pv (i + 1), ct := Pv (i + 1), bk := D.nx } τ2 G2) (hd : ∀ τ G, Pv xs.length τ G → D.nx τ G) :
    ∃ W : Nat → Nat → L2.St → Hp → Prop, (∃ m, W 0 m σ H) ∧ ∀ i m τ G, W i m τ G →
      ((IteT K a).stop i G ∧ D.nx τ G) ∨ ((IteT K a).go i G ∧ ∃ N : L2.St → Hp → Prop, (∀ τ' G', N τ' G' → ∃ m', m' < m ∧ W (i + 1) m' τ' G') ∧ ∀ x G', (IteT K a).yld i G x G' → g x τ G' fun τ2 G2 => tb { D with nx := N, ct := N, bk := D.nx } τ2 G2) := by
  refine ⟨fun i m τ G => m = xs.length - i ∧ i ≤ xs.length ∧ Pv i τ G, ⟨xs.length, by simp, Nat.zero_le _, h0⟩, fun i m τ G z => ?_⟩
  obtain ⟨rfl, hi, p⟩ := z
  have q := hl i τ G hi p
  rcases Nat.lt_or_eq_of_le hi with lt | e
  · refine .inr ⟨⟨xs, xs[i], q, List.getElem?_eq_getElem lt⟩, Pv (i + 1), fun τ' G' p' => ⟨xs.length - (i + 1), by omega, rfl, lt, p'⟩, fun y G' z => ?_⟩
    obtain ⟨T, x, rfl, hT, rfl, hx⟩ := z
    exact hs i x τ G T (hx xs q) p hT
  · exact .inl ⟨⟨xs, q, Nat.le_of_eq e.symm⟩, hd τ G (e ▸ p)⟩
end Own
end
section
/-! Own rules: x + y by an own __add__, x[i] by an own __getitem__. -/
namespace Own
open PySem PySem.Spec PyProof.Rows L2
section
variable {X : Cx} {CX : CXT} {f : Addr} {n : Nat} {sp : Sp} {E : XK}
/-- x + y: both of one class, its __add__ at f -/
def rAddOwn (K : PySem.W.Frag) (f : Addr) (sp : Sp) (E : XK) : R2 := fun x y H Q => ∃ a b C dx fs dy hs, x = .ref a ∧ y = .ref b ∧ H a = some (.ins C dx fs) ∧ H b = some (.ins C dy hs) ∧ PySem.W.selfFirst K C = true ∧
  PySem.W.findIn K (.ref C) "__add__" = some (some (.ref f)) ∧ PySem.W.isFn K (.ref f) = true ∧ sp [x, y] H (fun z H' => (∃ p, z = .ref p) ∧ Q z H') E
theorem op_addOwn (F : FnR X.prog X.w X.K X.mg X.base CX n f sp) (hr : Room n X.A) (hx : Passes CX X E) : OpR X (binaryOp .Add) (rAddOwn X.K f sp E) := fun pins s σ H x y v u Q I rx ry h => by
  obtain ⟨a, b, C, dx, fs, dy, hs, rfl, rfl, ea, eb, hsf, hfi, hf, q⟩ := h
  cases rx
  cases ry
  obtain ⟨_, O, _⟩ := ins_get I.hok ea
  obtain ⟨_, O', _⟩ := ins_get I.hok eb
  obtain ⟨od, J, _⟩ := O.look
  obtain ⟨od', J', _⟩ := O'.look
  obtain ⟨m, hF⟩ := I.fr
  refine PySem.W.binop_K (op := .Add) hF I.ok.mod.kin J J'.type hsf hfi hf ?_
  refine wpAny_mono (wpAny_call (run_fnR (us := [.ref a, .ref b]) (vs := [.ref a, .ref b]) F hr hx I (.cons rfl (.cons rfl .nil)) q)) (fun w s' z => ?_) fun _ _ x => x
  obtain ⟨z', H', J2, rz, ⟨p, ep⟩, qz⟩ := z
  subst ep
  cases (show w = Value.ref p from rz)
  exact ⟨.ref p, H', J2, rfl, qz⟩
/-- x[i]: the __getitem__ of x's class at f -/
def rIxOwn (K : PySem.W.Frag) (f : Addr) (sp : Sp) (E : XK) : R2 := fun x y H Q => ∃ a C dx fs, x = .ref a ∧ H a = some (.ins C dx fs) ∧
  PySem.W.findIn K (.ref C) "__getitem__" = some (some (.ref f)) ∧ PySem.W.fnIn K f = true ∧ PySem.W.isFn K (.ref f) = true ∧ sp [x, y] H Q E
theorem pe_ixOwn {a b : Expr} {ta tb : TE} {pos : Pos} (F : FnR X.prog X.w X.K X.mg X.base CX n f sp) (hr : Room (n + 1) X.A) (hx : Passes CX X E) (ha : PE X a ta) (hb : PE X b tb)
    (hsl : ∀ v i, subscripted b true v i = runValue (.builtin "lifetime.subscript" ⟨[v, i], []⟩)) : PE X (.Subscript a b pos) (tOp (rIxOwn X.K f sp E) ta tb) := ⟨fun pins s σ H Q I h => Subscript_ (binT ha hb I h fun v u s2 x y H2 J0 rx ry q => by
  obtain ⟨a', C, dx, fs, rfl, ea, hfi, hn, hf, q⟩ := q
  cases rx
  obtain ⟨_, O, _⟩ := ins_get J0.hok ea
  obtain ⟨od, J, _⟩ := O.look
  obtain ⟨m, hF⟩ := J0.fr
  have hr1 : Room n X.A.in1 := hr.in1
  exact PySem.W.sub_K hF J0.ok.mod.kin J hfi hn hf (wpAny_call (run_at (us := [.ref a', u]) (ws := [.ref a', y]) F hr1 J0.env0.in1 hx J0 (.cons rfl (.cons ry .nil)) q)) (hsl _ _))⟩
end
/-! ### x += y where the class has an own __add__ and no __iadd__ -/
theorem noI_object : typeLookup (.type "object") (PySem.dunderI "add") = pure none := by rw [typeLookup_type, builtinLookup_eq_fast]; kernel_rfl
theorem no_inplace {M : Model} {h : Heap} {K : PySem.W.Frag} {C : Addr} {cd : ClassData} (X : K.In h) (hc : PySem.W.clsIn K C = some cd) (hm : cd.mro = [.ref C, .type "object"]) (hs : PySem.W.findIn K (.ref C) (PySem.dunderI "add") = some none) :
    PySem.W.Looks M h (fillsInplaceSlot (.ref C) "add" true) false := by
  intro A Q E s k q
  unfold fillsInplaceSlot
  refine wpAny_bind ((PySem.W.looks_clsIn X hc).andThen (f := fun cd => pure cd.mro) .now A _ E s k ?_)
  rw [hm, List.anyM_cons]
  refine wpAny_bind (wpAny_bind (PySem.W.looks_findIn X hs A _ E s k ?_))
  refine wpAny_pure ?_
  rw [if_neg Bool.false_ne_true, List.anyM_cons]
  refine wpAny_bind (wpAny_bind (wpAny_of_eq noI_object (wpAny_pure (wpAny_pure ?_))))
  exact q
section
variable {prog : Program} {w : World} {A : Around} {E : Value → Shared → Prop} {s : Shared} {K : PySem.W.Frag} {x C L f : Addr} {h₀ : Heap} {m : Str → Option Value} {ox : Obj} {od : Option Obj}
theorem iadd_K {b : Value} {cd : ClassData} {Q : Value → Shared → Prop} (X : K.In s.heap) (I : PySem.W.InstAt s.heap x ox C od) (hb : PySem.W.Looks (model prog w) s.heap (typeOf b) (.ref C)) (hc : PySem.W.clsIn K C = some cd) (hm : cd.mro = [.ref C, .type "object"])
    (hi : PySem.W.findIn K (.ref C) (PySem.dunderI "add") = some none) (hs : PySem.W.findIn K (.ref C) (PySem.dunder "add") = some (some (.ref f))) (hf : PySem.W.isFn K (.ref f) = true)
    (h : wpAny (model prog w) A (call (.ref f) [.ref x, b]) (PySem.W.CmpBack Q) E s) : wpAny (model prog w) A (inplaceOp .Add (.ref x) b) Q E s := by
  unfold inplaceOp
  refine wpAny_holding (wpAny_bind (I.type.here (wpAny_bind ((no_inplace X hc hm hi).here ?_))))
  simp only [Bool.false_eq_true, if_false]
  refine wpAny_bind (m := binaryOp1 _ _ _) ?_
  unfold binaryOp1
  refine wpAny_bind (I.type.here (wpAny_bind (hb.here (wpAny_bind ((PySem.W.fills_K X hc hm hs).here ?_)))))
  simp only [beq_self_eq_true, if_true]
  refine wpAny_bind (wpAny_pure ?_)
  simp only [Bool.and_false, Bool.false_eq_true, if_false, Bool.false_and]
  refine wpAny_bind (wpAny_pure ?_)
  simp only [Bool.false_eq_true, if_false]
  refine wpAny_bind (m := tryMethod (.ref x) _ b) ?_
  unfold tryMethod
  refine wpAny_bind (PySem.W.special_fn X I hs (beq_iff_eq.mp hf) (wpAny_mono h (fun v s' hv => ?_) fun _ _ e => e))
  cases v <;> first | exact hv.elim | exact wpAny_pure (wpAny_pure (wpAny_pure hv))
end
section
variable {X : Cx} {CX : CXT} {f : Addr} {n : Nat} {sp : Sp} {E : XK}
def iAddOwn (K : PySem.W.Frag) (f : Addr) (sp : Sp) (E : XK) : TIp := fun x y H Q => ∃ a b C dx fs dy hs cd, x = .ref a ∧ y = .ref b ∧ H a = some (.ins C dx fs) ∧ H b = some (.ins C dy hs) ∧ PySem.W.clsIn K C = some cd ∧ cd.mro = [.ref C, .type "object"] ∧
  PySem.W.findIn K (.ref C) (PySem.dunderI "add") = some none ∧ PySem.W.findIn K (.ref C) "__add__" = some (some (.ref f)) ∧ PySem.W.isFn K (.ref f) = true ∧ sp [x, y] H (fun z H' => (∃ p, z = .ref p) ∧ Q z H') E
theorem ip_addOwn (F : FnR X.prog X.w X.K X.mg X.base CX n f sp) (hr : Room n X.A) (hx : Passes CX X E) : PIp X .Add (iAddOwn X.K f sp E) := fun pins s σ H x y v u Q I rx ry h => by
  obtain ⟨a, b, C, dx, fs, dy, hs, cd, rfl, rfl, ea, eb, hc, hm, hi, hfi, hf, q⟩ := h
  cases rx
  cases ry
  obtain ⟨_, O, _⟩ := ins_get I.hok ea
  obtain ⟨_, O', _⟩ := ins_get I.hok eb
  obtain ⟨od, J, _⟩ := O.look
  obtain ⟨od', J', _⟩ := O'.look
  refine iadd_K I.kIn J J'.type hc hm hi hfi hf ?_
  refine wpAny_mono (wpAny_call (run_fnR (us := [.ref a, .ref b]) (vs := [.ref a, .ref b]) F hr hx I (.cons rfl (.cons rfl .nil)) q)) (fun w s' z => ?_) fun _ _ x => x
  obtain ⟨z', H', J2, rz, ⟨p, ep⟩, qz⟩ := z
  subst ep
  cases (show w = Value.ref p from rz)
  exact ⟨.ref p, H', J2, rfl, qz⟩
end
end Own
end
section
namespace Ow
open PySem L2 Own
def top (i : Nat) : Stmt := PySem.Challenge.pw_outermost_k09_stacks_that_are_changed.main.body.getD i (.Pass ⟨0, 0, 0, 0⟩)
abbrev s_InvalidRow_init : Stmt := inClass (top 2) 0
abbrev s_InvalidStack_init : Stmt := inClass (top 3) 0
abbrev s_InvalidText_init : Stmt := inClass (top 4) 0
abbrev s_NoRow_init : Stmt := inClass (top 5) 0
abbrev s_is_integer : Stmt := top 7
abbrev s_is_sequence : Stmt := top 8
abbrev s_Row_read : Stmt := inClass (top 15) 0
abbrev s_Row_words : Stmt := inClass (top 15) 1
abbrev s_Row_eq : Stmt := inClass (top 15) 2
abbrev s_Row_str : Stmt := inClass (top 15) 3
abbrev s_Keep_init : Stmt := inClass (top 16) 0
abbrev s_Keep_words : Stmt := inClass (top 16) 1
abbrev s_Tries_init : Stmt := inClass (top 17) 0
abbrev s_Tries_words : Stmt := inClass (top 17) 1
abbrev s_Limit_init : Stmt := inClass (top 18) 0
abbrev s_Limit_words : Stmt := inClass (top 18) 1
abbrev s_Leave_words : Stmt := inClass (top 19) 0
abbrev s_Soft_init : Stmt := inClass (top 20) 0
abbrev s_Soft_words : Stmt := inClass (top 20) 1
abbrev s_Count_words : Stmt := inClass (top 21) 0
abbrev s_Lend_words : Stmt := inClass (top 22) 0
abbrev s_is_one_of : Stmt := top 23
abbrev s_check_argument : Stmt := top 24
abbrev s_every_row : Stmt := top 25
abbrev s_Stack_init : Stmt := inClass (top 27) 0
abbrev s_Stack_read : Stmt := inClass (top 27) 1
abbrev s_Stack_without : Stmt := inClass (top 27) 2
abbrev s_Stack_swapped : Stmt := inClass (top 27) 3
abbrev s_Stack_put : Stmt := inClass (top 27) 4
abbrev s_Stack_add : Stmt := inClass (top 27) 5
abbrev s_Stack_len : Stmt := inClass (top 27) 6
abbrev s_Stack_getitem : Stmt := inClass (top 27) 7
abbrev s_Stack_iter : Stmt := inClass (top 27) 8
abbrev s_Stack_eq : Stmt := inClass (top 27) 9
abbrev s_Stack_str : Stmt := inClass (top 27) 10
abbrev s_rows_of : Stmt := top 28
abbrev s_rows_in : Stmt := top 29
abbrev s_check_index : Stmt := top 30
abbrev s_exchanged : Stmt := top 31
abbrev s_law_source : Stmt := top 33
abbrev s_law_draw : Stmt := top 34
abbrev s_law_pick : Stmt := top 35
abbrev s_law_mixed : Stmt := top 36
abbrev s_law_row : Stmt := top 37
abbrev s_law_rows : Stmt := top 38
abbrev s_law_row_text : Stmt := top 39
abbrev s_law_text : Stmt := top 40
abbrev s_law : Stmt := top 41
/-! ### rows as data -/
inductive R where
  | keep (w : Bool) (l : Option Nat) | tries (n : Nat) (a : Bool) | limit (n : Nat) | leave | soft (a : Bool) | count | lend
  deriving DecidableEq
def wS (w : Bool) : Str := if w then "all" else "good"
def aS (a : Bool) : Str := if a then "all" else "fault"
def nS (n : Nat) : Str := Str.ofString (toString ((n : Nat) : Int))
def lV : Option Nat → V
  | none => .non
  | some n => .int n
def lS : Option Nat → Str
  | none => "ever"
  | some n => nS n
def R.words : R → List Str
  | .keep w l => ["keep", wS w, lS l]
  | .tries n a => ["tries", nS n, aS a]
  | .limit n => ["limit", nS n]
  | .leave => ["leave"]
  | .soft a => ["soft", aS a]
  | .count => ["count"]
  | .lend => ["lend"]
def R.text (r : R) : Str := Txt.join " " r.words
def R.ok : R → Bool
  | .keep _ l => match l with | none => true | some n => decide (n ≤ 3)
  | .tries n _ => decide (1 ≤ n ∧ n ≤ 3)
  | .limit n => decide (1 ≤ n ∧ n ≤ 6)
  | _ => true
def allRows : List R := [.keep false none, .keep false (some 0), .keep false (some 1), .keep false (some 2), .keep false (some 3), .keep true none, .keep true (some 0), .keep true (some 1), .keep true (some 2), .keep true (some 3),
  .tries 1 false, .tries 1 true, .tries 2 false, .tries 2 true, .tries 3 false, .tries 3 true, .limit 1, .limit 2, .limit 3, .limit 4, .limit 5, .limit 6, .soft false, .soft true, .leave, .count, .lend]
theorem mem_all {r : R} (h : r.ok = true) : r ∈ allRows := by
  cases r with
  | keep w l =>
    cases l with
    | none => cases w <;> decide
    | some n =>
      have h : n ≤ 3 := of_decide_eq_true h
      have e : n = 0 ∨ n = 1 ∨ n = 2 ∨ n = 3 := by omega
      rcases e with rfl | rfl | rfl | rfl <;> cases w <;> decide
  | tries n a =>
    have h : 1 ≤ n ∧ n ≤ 3 := of_decide_eq_true h
    have e : n = 1 ∨ n = 2 ∨ n = 3 := by omega
    rcases e with rfl | rfl | rfl <;> cases a <;> decide
  | limit n =>
    have h : 1 ≤ n ∧ n ≤ 6 := of_decide_eq_true h
    have e : n = 1 ∨ n = 2 ∨ n = 3 ∨ n = 4 ∨ n = 5 ∨ n = 6 := by omega
    rcases e with rfl | rfl | rfl | rfl | rfl | rfl <;> decide
  | leave => decide
  | soft a => cases a <;> decide
  | count => decide
  | lend => decide
theorem all_ok : ∀ r ∈ allRows, r.ok = true := by decide
theorem text_inj {r s : R} (hr : r.ok = true) (hs : s.ok = true) (e : r.text = s.text) : r = s := by
  have key : ∀ r ∈ allRows, ∀ s ∈ allRows, r.text = s.text → r = s := by decide +kernel
  exact key r (mem_all hr) s (mem_all hs) e
theorem text_small {r : R} (hr : r.ok = true) : (r.words.map (·.length)).sum + r.words.length * Str.length " " ≤ 16777216 ∧ r.text.length ≤ 100 := by
  have key : ∀ r ∈ allRows, (r.words.map (·.length)).sum + r.words.length * Str.length " " ≤ 16777216 ∧ r.text.length ≤ 100 := by decide +kernel
  exact key r (mem_all hr)
theorem text_eq {r s : R} (hr : r.ok = true) (hs : s.ok = true) : decide (V.str r.text = V.str s.text) = decide (r = s) := by
  by_cases e : r = s
  · rw [e, decide_eq_true rfl, decide_eq_true rfl]
  · rw [decide_eq_false e]
    exact decide_eq_false fun z => e (text_inj hr hs (V.str.inj z))
/-! ### rows as objects -/
structure Cs where
  (row keep tries limit leave soft count lend : Addr)
def Cs.of (c : Cs) : R → Addr
  | .keep _ _ => c.keep
  | .tries _ _ => c.tries
  | .limit _ => c.limit
  | .leave => c.leave
  | .soft _ => c.soft
  | .count => c.count
  | .lend => c.lend
def fKeep (w : Bool) (l : Option Nat) : List (Str × V) := putF "life" (lV l) (putF "what" (.str (wS w)) [])
def fTries (n : Nat) (a : Bool) : List (Str × V) := putF "on" (.str (aS a)) (putF "many" (.int n) [])
def fLimit (n : Nat) : List (Str × V) := putF "many" (.int n) []
def fSoft (a : Bool) : List (Str × V) := putF "on" (.str (aS a)) []
def fsOf : R → List (Str × V)
  | .keep w l => fKeep w l
  | .tries n a => fTries n a
  | .limit n => fLimit n
  | .soft a => fSoft a
  | _ => []
theorem kLW : ¬ (("what" : Str) = "life") := by decide +kernel
theorem kMO : ¬ (("many" : Str) = "on") := by decide +kernel
theorem fKeep_what (w l) : (fKeep w l).lookup ("what" : Str) = some (.str (wS w)) := by
  unfold fKeep; rw [lookup_putF, if_neg kLW, lookup_putF, if_pos rfl]
theorem fKeep_life (w l) : (fKeep w l).lookup ("life" : Str) = some (lV l) := by
  unfold fKeep; rw [lookup_putF, if_pos rfl]
theorem fTries_many (n a) : (fTries n a).lookup ("many" : Str) = some (.int n) := by
  unfold fTries; rw [lookup_putF, if_neg kMO, lookup_putF, if_pos rfl]
theorem fTries_on (n a) : (fTries n a).lookup ("on" : Str) = some (.str (aS a)) := by
  unfold fTries; rw [lookup_putF, if_pos rfl]
theorem fLimit_many (n) : (fLimit n).lookup ("many" : Str) = some (.int n) := by
  unfold fLimit; rw [lookup_putF, if_pos rfl]
theorem fSoft_on (a) : (fSoft a).lookup ("on" : Str) = some (.str (aS a)) := by
  unfold fSoft; rw [lookup_putF, if_pos rfl]
theorem fs_no (r : R) {m : Str} (h1 : ¬ m = "life") (h2 : ¬ m = "what") (h3 : ¬ m = "on") (h4 : ¬ m = "many") : (fsOf r).lookup m = none := by
  cases r <;> first
    | rfl
    | (show (fKeep _ _).lookup m = none; unfold fKeep; rw [lookup_putF, if_neg h1, lookup_putF, if_neg h2]; rfl)
    | (show (fTries _ _).lookup m = none; unfold fTries; rw [lookup_putF, if_neg h3, lookup_putF, if_neg h4]; rfl)
    | (show (fLimit _).lookup m = none; unfold fLimit; rw [lookup_putF, if_neg h4]; rfl)
    | (show (fSoft _).lookup m = none; unfold fSoft; rw [lookup_putF, if_neg h3]; rfl)
/-- the row r stands at p -/
def RowAt (c : Cs) (H : Hp) (p : Addr) (r : R) : Prop := ∃ dx, H p = some (.ins (c.of r) dx (fsOf r))
theorem RowAt.same {c : Cs} {H H' : Hp} {p : Addr} {r : R} (s : Same H H') (h : RowAt c H p r) : RowAt c H' p r := let ⟨dx, e⟩ := h; ⟨dx, s _ _ e⟩
/-- a tuple of the written part -/
def KTup (K : PySem.W.Frag) (a : Addr) (xs : List V) : Prop := ∀ H, SqT K H a xs
structure Txt' (K : PySem.W.Frag) (mg : Str → Option Value) (c : Cs) (gs ge : Addr) : Prop where
  own : ∀ r, OwnC K (c.of r) gs ge
  nW : NoAttr K c.keep "what"
  nL : NoAttr K c.keep "life"
  tM : NoAttr K c.tries "many"
  tO : NoAttr K c.tries "on"
  lM : NoAttr K c.limit "many"
  sO : NoAttr K c.soft "on"
  isR : ∀ r, PySem.W.kitOne K (.ref (c.of r)) (.ref c.row) = some true
  mRow : mg "Row" = some (.ref c.row)
  mKeep : mg "Keep" = some (.ref c.keep)
  mTries : mg "Tries" = some (.ref c.tries)
  mLimit : mg "Limit" = some (.ref c.limit)
  mLeave : mg "Leave" = some (.ref c.leave)
  mSoft : mg "Soft" = some (.ref c.soft)
  mCount : mg "Count" = some (.ref c.count)
  mLend : mg "Lend" = some (.ref c.lend)
  oLeave : MkO K c.leave
  oCount : MkO K c.count
  oLend : MkO K c.lend
  cKept : ∃ a, mg "KEPT_ANSWERS" = some (.ref a) ∧ KTup K a [.str "good", .str "all"]
  cLives : ∃ a, mg "LIVES" = some (.ref a) ∧ KTup K a [.int 0, .int 1, .int 2, .int 3]
  cAsked : ∃ a, mg "MOST_ASKED" = some (.ref a) ∧ KTup K a [.int 1, .int 2, .int 3]
  cTries : ∃ a, mg "MOST_TRIES" = some (.ref a) ∧ KTup K a [.int 1, .int 2, .int 3, .int 4, .int 5, .int 6]
  cFaults : ∃ a, mg "FAULTS" = some (.ref a) ∧ KTup K a [.str "fault", .str "all"]
  isi : mg "isinstance" = none
  str : mg "str" = none
  int_ : mg "int" = none
  bool_ : mg "bool" = none
/-! ### promises -/
def spIsInt : Sp := fun vs H Q _ => ∃ i : Int, vs = [.int i] ∧ Q (.bl true) H
def spIsOne (K : PySem.W.Frag) : Sp := fun vs H Q _ => ∃ (i : Int) (a : Addr) (ns : List Int), vs = [.int i, .ref a] ∧ KTup K a (ns.map V.int) ∧ Q (.bl (decide (i ∈ ns))) H
def spCheck : Sp := fun vs H Q _ => ∃ x : V, vs = [x, .bl true] ∧ Q .non H
def spKeep (c : Cs) : Sp := fun vs H Q _ => ∃ (p dx : Addr) (w : Bool) (l : Option Nat), vs = [.ref p, .str (wS w), lV l] ∧ (R.keep w l).ok = true ∧ H p = some (.ins c.keep dx []) ∧ ∀ H' : Hp, RowAt c H' p (.keep w l) → (∀ b o, H b = some o → b ≠ p → H' b = some o) → Q .non H'
def spTries (c : Cs) : Sp := fun vs H Q _ => ∃ (p dx : Addr) (n : Nat) (a : Bool), vs = [.ref p, .int n, .str (aS a)] ∧ (R.tries n a).ok = true ∧ H p = some (.ins c.tries dx []) ∧ ∀ H' : Hp, RowAt c H' p (.tries n a) → (∀ b o, H b = some o → b ≠ p → H' b = some o) → Q .non H'
def spLimit (c : Cs) : Sp := fun vs H Q _ => ∃ (p dx : Addr) (n : Nat), vs = [.ref p, .int n] ∧ (R.limit n).ok = true ∧ H p = some (.ins c.limit dx []) ∧ ∀ H' : Hp, RowAt c H' p (.limit n) → (∀ b o, H b = some o → b ≠ p → H' b = some o) → Q .non H'
def spSoft (c : Cs) : Sp := fun vs H Q _ => ∃ (p dx : Addr) (a : Bool), vs = [.ref p, .str (aS a)] ∧ H p = some (.ins c.soft dx []) ∧ ∀ H' : Hp, RowAt c H' p (.soft a) → (∀ b o, H b = some o → b ≠ p → H' b = some o) → Q .non H'
/-- words: a new tuple -/
def spWords (c : Cs) (P : R → Prop) : Sp := fun vs H Q _ => ∃ (p : Addr) (r : R), vs = [.ref p] ∧ P r ∧ r.ok = true ∧ RowAt c H p r ∧ ∀ t, H t = none → Q (.ref t) (upd H t (.tup (r.words.map V.str)))
def spStr (c : Cs) : Sp := fun vs H Q _ => ∃ (p : Addr) (r : R), vs = [.ref p] ∧ r.ok = true ∧ RowAt c H p r ∧ ∀ H', Same H H' → Q (.str r.text) H'
/-- what is no row -/
def NoRow' (K : PySem.W.Frag) (c : Cs) (H : Hp) (y : V) : Prop := ∃ t, TyX K H y t ∧ PySem.W.kitOne K t (.ref c.row) = some false
def spEq (K : PySem.W.Frag) (c : Cs) : Sp := fun vs H Q _ => ∃ (p : Addr) (r : R) (y : V), vs = [.ref p, y] ∧ r.ok = true ∧ RowAt c H p r ∧
  ((∃ q s, y = .ref q ∧ s.ok = true ∧ RowAt c H q s ∧ ∀ H', Same H H' → Q (.bl (decide (r = s))) H') ∨ (NoRow' K c H y ∧ Q (.bl false) H))
end Ow
end
section
namespace Ow
open PySem L2 Own
section
variable {P : Program} {w : World} {K : PySem.W.Frag} {mg : Str → Option Value} {base : Heap} {c : Cs} {gs ge : Addr}
theorem small_len {n : Nat} (h : n ≤ 1000) : n ≤ sizeLine := Nat.le_of_lt (small1000 h)
/-! ### is_integer, is_one_of, check_argument -/
theorem sc_is_integer : FnScope ["value"] ["value"] (defScope s_is_integer) := ⟨rfl, rfl, rfl, by decide +kernel, rfl, by decide +kernel, by decide +kernel⟩
theorem ok_is_integer {f : Addr} {fd : FuncData} (F : Fun K "is_integer" "is_integer" s_is_integer f fd) (T : Txt' K mg c gs ge) : FnOk P w K mg base CX0 1 f fd ["value"] spIsInt := by
  refine F.ok sc_is_integer (fun vs H Q E h => ?_) (fun cdv A outer s H vs Q E hr h => ?_)
  · obtain ⟨i, rfl, _⟩ := h
    rfl
  · obtain ⟨i, rfl, k⟩ := h
    refine ⟨_, pss_one (ps_ret (pe_and (pe_callB call_isi (by rfl) T.isi (by decide +kernel) (pa_cons (pv 0) (pa_cons (pe_bltn (by rfl) T.int_ (by decide +kernel) (v := .ty "int") rfl) pa_nil)))
      (pe_one (pe_not (pe_callB call_isi (by rfl) T.isi (by decide +kernel) (pa_cons (pv 0) (pa_cons (pe_bltn (by rfl) T.bool_ (by decide +kernel) (v := .ty "bool") rfl) pa_nil))))))), ?_⟩
    refine ⟨_, rfl, _, _, _, _, true, rfl, .ty _, .base (.int i), kit_ty (by decide +kernel), true, rfl, iteT ?_⟩
    refine ⟨_, rfl, _, _, _, _, false, rfl, .ty _, .base (.int i), kit_ty (by decide +kernel), false, rfl, ?_⟩
    exact k
theorem sc_is_one_of : FnScope ["value", "numbers"] ["value", "numbers"] (defScope s_is_one_of) := ⟨rfl, rfl, rfl, by decide +kernel, rfl, by decide +kernel, by decide +kernel⟩
theorem inV_ints (i : Int) : ∀ ns : List Int, inV (.int i) (ns.map V.int) = decide (i ∈ ns)
  | [] => by simp [inV]
  | n :: r => by
    have ih := inV_ints i r
    unfold inV at ih ⊢
    rw [List.map_cons, List.any_cons, ih]
    by_cases e : n = i
    · subst e
      simp [eqV]
    · have e' : ¬ i = n := fun z => e z.symm
      simp [eqV, e, e']
theorem flat_ints : ∀ ns : List Int, (ns.map V.int).all flatV = true
  | [] => rfl
  | n :: r => by rw [List.map_cons, List.all_cons, flat_ints r]; rfl
theorem ok_is_one_of {f fI : Addr} {fd fdI : FuncData} (F : Fun K "is_one_of" "is_one_of" s_is_one_of f fd) (T : Txt' K mg c gs ge) (FI : Fun K "is_integer" "is_integer" s_is_integer fI fdI) (bI : Binds K fdI ["value"] []) (mI : mg "is_integer" = some (.ref fI)) :
    FnOk P w K mg base CX0 2 f fd ["value", "numbers"] (spIsOne K) := by
  have GI : FnOk P w K mg base CX0 1 fI fdI ["value"] spIsInt := ok_is_integer FI T
  refine F.ok sc_is_one_of (fun vs H Q E h => ?_) (fun cdv A outer s H vs Q E hr h => ?_)
  · obtain ⟨i, a, ns, rfl, _⟩ := h
    rfl
  · obtain ⟨i, a, ns, rfl, kt, k⟩ := h
    refine ⟨_, pss_one (ps_ret (pe_and (pe_call GI hr (by rfl) mI FI.kp bI .nil pass0 (pa_cons (pv 0) pa_nil)) (pe_one (pe_cmpR op_in_seq (pv 0) (pv 1) (by rfl))))), ?_⟩
    refine ⟨_, rfl, i, rfl, true, rfl, iteT ?_⟩
    refine ⟨_, rfl, _, rfl, a, _, rfl, .inr (kt H), rfl, flat_ints ns, ?_⟩
    show Q (.bl (inV (.int i) (ns.map V.int))) H
    rw [inV_ints]
    exact k
theorem sc_check : FnScope ["word", "is_right"] ["word", "is_right"] (defScope s_check_argument) := ⟨rfl, rfl, rfl, by decide +kernel, rfl, by decide +kernel, by decide +kernel⟩
theorem ok_check {f : Addr} {fd : FuncData} (F : Fun K "check_argument" "check_argument" s_check_argument f fd) : FnOk P w K mg base CX0 1 f fd ["word", "is_right"] spCheck := by
  refine F.ok sc_check (fun vs H Q E h => ?_) (fun cdv A outer s H vs Q E hr h => ?_)
  · obtain ⟨x, rfl, _⟩ := h
    rfl
  · obtain ⟨x, rfl, k⟩ := h
    refine ⟨_, pss_one (ps_if (pt_not (pt_val (pv 1))) pss_never pss_nil), ?_⟩
    refine ⟨_, rfl, true, rfl, iteF k⟩

/-! ### the classes' __init__ -/
theorem chk {x : V} {b : Bool} {H : Hp} {Q : VK} {E : XK} (h : b = true) (k : Q .non H) : spCheck [x, .bl b] H Q E := ⟨x, by rw [h], k⟩
theorem flat_strs : ∀ ns : List Str, (ns.map V.str).all flatV = true
  | [] => rfl
  | n :: r => by rw [List.map_cons, List.all_cons, flat_strs r]; rfl
theorem sc_Keep : FnScope ["self", "what", "life"] ["self", "what", "life"] (defScope s_Keep_init) := ⟨rfl, rfl, rfl, by decide +kernel, rfl, by decide +kernel, by decide +kernel⟩
/-- what the defs that the rows call promise, and where they stand -/
structure Low (P : Program) (w : World) (K : PySem.W.Frag) (mg : Str → Option Value) (base : Heap) (fO fC : Addr) (dO dC : FuncData) : Prop where
  gO : FnOk P w K mg base CX0 2 fO dO ["value", "numbers"] (spIsOne K)
  bO : Binds K dO ["value", "numbers"] []
  mO : mg "is_one_of" = some (.ref fO)
  kO : PySem.W.keepIn K (.ref fO) = true
  gC : FnOk P w K mg base CX0 1 fC dC ["word", "is_right"] spCheck
  bC : Binds K dC ["word", "is_right"] []
  mC : mg "check_argument" = some (.ref fC)
  kC : PySem.W.keepIn K (.ref fC) = true
theorem ok_Keep {f fO fC : Addr} {fd dO dC : FuncData} {dvs : List V} (F : FunD K "__init__" "Keep.__init__" (defArgs s_Keep_init) (defBody s_Keep_init) (defScope s_Keep_init) dvs [] f fd) (T : Txt' K mg c gs ge) (L : Low P w K mg base fO fC dO dC) :
    FnOk P w K mg base CX0 3 f fd ["self", "what", "life"] (spKeep c) := by
  refine F.ok sc_Keep (fun vs H Q E h => ?_) (fun cdv A outer s H vs Q E hr h => ?_)
  · obtain ⟨p, dx, w, l, rfl, _⟩ := h
    rfl
  · obtain ⟨p, dx, wh, l, rfl, hok, hp, k⟩ := h
    obtain ⟨aK, mK, kK⟩ := T.cKept
    obtain ⟨aL, mL, kL⟩ := T.cLives
    have hr1 : Room 1 _ := hr.mono (by decide)
    refine ⟨_, pss_cons (ps_expr (pe_call L.gC hr1 (by rfl) L.mC L.kC L.bC .nil pass0 (pa_cons pe_str (pa_cons (pe_cmpR op_in_seq (pv 1) (pe_glob (v := .ref aK) (by rfl) mK rfl) (by rfl)) pa_nil))))
      (pss_cons (ps_expr (pe_call L.gC hr1 (by rfl) L.mC L.kC L.bC .nil pass0 (pa_cons pe_str (pa_cons (pe_or (pe_cmp (pc_isN (pv 2)) rfl) (pe_one (pe_call L.gO hr (by rfl) L.mO L.kO L.bO .nil pass0 (pa_cons (pv 2) (pa_cons (pe_glob (v := .ref aL) (by rfl) mL rfl) pa_nil))))) pa_nil))))
      (pss_cons (ps_fld (pv 0) (pv 1) rfl) (pss_one (ps_fld (pv 0) (pv 2) rfl)))), ?_⟩
    refine ⟨_, rfl, aK, _, rfl, .inr (kK H), by cases wh <;> rfl, by rfl, ?_⟩
    refine ⟨_, by cases wh <;> rfl, ?_⟩
    refine ⟨_, rfl, _, rfl, ?_⟩
    have go : tSeq (sFld K (tVar 0) (tVar 1) "what") (sFld K (tVar 0) (tVar 2) "life") { nx := fun _ H' => Q .non H', rt := Q } (start ["self", "what", "life"] [.ref p, .str (wS wh), lV l]) H := by
      refine ⟨_, rfl, _, rfl, p, c.keep, dx, [], rfl, hp, (T.own (.keep wh l)).cl, T.nW, (by show 0 < 1000; decide), ?_⟩
      refine ⟨_, rfl, _, rfl, p, c.keep, dx, _, rfl, upd_same, (T.own (.keep wh l)).cl, T.nL, (by show 1 < 1000; decide), ?_⟩
      exact k _ ⟨dx, upd_same⟩ fun b o e hb => by rw [upd_ne hb, upd_ne hb]; exact e
    cases l with
    | none => exact iteT ⟨_, rfl, go⟩
    | some n =>
      have hn : n ≤ 3 := of_decide_eq_true hok
      have hd : decide (((n : Nat) : Int) ∈ ([0, 1, 2, 3] : List Int)) = true := by
        have e : n = 0 ∨ n = 1 ∨ n = 2 ∨ n = 3 := by omega
        rcases e with rfl | rfl | rfl | rfl <;> rfl
      exact iteF ⟨_, rfl, n, aL, [0, 1, 2, 3], rfl, kL, _, congrArg (fun b => [V.str "life", V.bl b]) hd, go⟩
theorem sc_Tries : FnScope ["self", "many", "on"] ["self", "many", "on"] (defScope s_Tries_init) := ⟨rfl, rfl, rfl, by decide +kernel, rfl, by decide +kernel, by decide +kernel⟩
theorem ok_Tries {f fO fC : Addr} {fd dO dC : FuncData} {dvs : List V} (F : FunD K "__init__" "Tries.__init__" (defArgs s_Tries_init) (defBody s_Tries_init) (defScope s_Tries_init) dvs [] f fd) (T : Txt' K mg c gs ge) (L : Low P w K mg base fO fC dO dC) :
    FnOk P w K mg base CX0 3 f fd ["self", "many", "on"] (spTries c) := by
  refine F.ok sc_Tries (fun vs H Q E h => ?_) (fun cdv A outer s H vs Q E hr h => ?_)
  · obtain ⟨p, dx, n, a, rfl, _⟩ := h
    rfl
  · obtain ⟨p, dx, n, a, rfl, hok, hp, k⟩ := h
    obtain ⟨aM, mM, kM⟩ := T.cAsked
    obtain ⟨aF, mF, kF⟩ := T.cFaults
    have hr1 : Room 1 _ := hr.mono (by decide)
    refine ⟨_, pss_cons (ps_expr (pe_call L.gC hr1 (by rfl) L.mC L.kC L.bC .nil pass0 (pa_cons pe_str (pa_cons (pe_call L.gO hr (by rfl) L.mO L.kO L.bO .nil pass0 (pa_cons (pv 1) (pa_cons (pe_glob (v := .ref aM) (by rfl) mM rfl) pa_nil))) pa_nil))))
      (pss_cons (ps_expr (pe_call L.gC hr1 (by rfl) L.mC L.kC L.bC .nil pass0 (pa_cons pe_str (pa_cons (pe_cmpR op_in_seq (pv 2) (pe_glob (v := .ref aF) (by rfl) mF rfl) (by rfl)) pa_nil))))
      (pss_cons (ps_fld (pv 0) (pv 1) rfl) (pss_one (ps_fld (pv 0) (pv 2) rfl)))), ?_⟩
    have hn : 1 ≤ n ∧ n ≤ 3 := of_decide_eq_true hok
    have hd : decide (((n : Nat) : Int) ∈ ([1, 2, 3] : List Int)) = true := by
      have e : n = 1 ∨ n = 2 ∨ n = 3 := by omega
      rcases e with rfl | rfl | rfl <;> rfl
    refine ⟨_, rfl, n, aM, [1, 2, 3], rfl, kM, _, congrArg (fun b => [V.str "many", V.bl b]) hd, ?_⟩
    refine ⟨_, rfl, aF, _, rfl, .inr (kF H), by cases a <;> rfl, by rfl, ?_⟩
    refine ⟨_, by cases a <;> rfl, ?_⟩
    refine ⟨_, rfl, _, rfl, p, c.tries, dx, [], rfl, hp, (T.own (.tries n a)).cl, T.tM, (by show 0 < 1000; decide), ?_⟩
    refine ⟨_, rfl, _, rfl, p, c.tries, dx, _, rfl, upd_same, (T.own (.tries n a)).cl, T.tO, (by show 1 < 1000; decide), ?_⟩
    exact k _ ⟨dx, upd_same⟩ fun b o e hb => by rw [upd_ne hb, upd_ne hb]; exact e
theorem sc_Limit : FnScope ["self", "many"] ["self", "many"] (defScope s_Limit_init) := ⟨rfl, rfl, rfl, by decide +kernel, rfl, by decide +kernel, by decide +kernel⟩
theorem ok_Limit {f fO fC : Addr} {fd dO dC : FuncData} (F : Fun K "__init__" "Limit.__init__" s_Limit_init f fd) (T : Txt' K mg c gs ge) (L : Low P w K mg base fO fC dO dC) :
    FnOk P w K mg base CX0 3 f fd ["self", "many"] (spLimit c) := by
  refine F.ok sc_Limit (fun vs H Q E h => ?_) (fun cdv A outer s H vs Q E hr h => ?_)
  · obtain ⟨p, dx, n, rfl, _⟩ := h
    rfl
  · obtain ⟨p, dx, n, rfl, hok, hp, k⟩ := h
    obtain ⟨aM, mM, kM⟩ := T.cTries
    have hr1 : Room 1 _ := hr.mono (by decide)
    refine ⟨_, pss_cons (ps_expr (pe_call L.gC hr1 (by rfl) L.mC L.kC L.bC .nil pass0 (pa_cons pe_str (pa_cons (pe_call L.gO hr (by rfl) L.mO L.kO L.bO .nil pass0 (pa_cons (pv 1) (pa_cons (pe_glob (v := .ref aM) (by rfl) mM rfl) pa_nil))) pa_nil))))
      (pss_one (ps_fld (pv 0) (pv 1) rfl)), ?_⟩
    have hn : 1 ≤ n ∧ n ≤ 6 := of_decide_eq_true hok
    have hd : decide (((n : Nat) : Int) ∈ ([1, 2, 3, 4, 5, 6] : List Int)) = true := by
      have e : n = 1 ∨ n = 2 ∨ n = 3 ∨ n = 4 ∨ n = 5 ∨ n = 6 := by omega
      rcases e with rfl | rfl | rfl | rfl | rfl | rfl <;> rfl
    refine ⟨_, rfl, n, aM, [1, 2, 3, 4, 5, 6], rfl, kM, _, congrArg (fun b => [V.str "many", V.bl b]) hd, ?_⟩
    refine ⟨_, rfl, _, rfl, p, c.limit, dx, [], rfl, hp, (T.own (.limit n)).cl, T.lM, (by show 0 < 1000; decide), ?_⟩
    exact k _ ⟨dx, upd_same⟩ fun b o e hb => by rw [upd_ne hb]; exact e
theorem sc_Soft : FnScope ["self", "on"] ["self", "on"] (defScope s_Soft_init) := ⟨rfl, rfl, rfl, by decide +kernel, rfl, by decide +kernel, by decide +kernel⟩
theorem ok_Soft {f fO fC : Addr} {fd dO dC : FuncData} {dvs : List V} (F : FunD K "__init__" "Soft.__init__" (defArgs s_Soft_init) (defBody s_Soft_init) (defScope s_Soft_init) dvs [] f fd) (T : Txt' K mg c gs ge) (L : Low P w K mg base fO fC dO dC) :
    FnOk P w K mg base CX0 3 f fd ["self", "on"] (spSoft c) := by
  refine F.ok sc_Soft (fun vs H Q E h => ?_) (fun cdv A outer s H vs Q E hr h => ?_)
  · obtain ⟨p, dx, a, rfl, _⟩ := h
    rfl
  · obtain ⟨p, dx, a, rfl, hp, k⟩ := h
    obtain ⟨aF, mF, kF⟩ := T.cFaults
    have hr1 : Room 1 _ := hr.mono (by decide)
    refine ⟨_, pss_cons (ps_expr (pe_call L.gC hr1 (by rfl) L.mC L.kC L.bC .nil pass0 (pa_cons pe_str (pa_cons (pe_cmpR op_in_seq (pv 1) (pe_glob (v := .ref aF) (by rfl) mF rfl) (by rfl)) pa_nil))))
      (pss_one (ps_fld (pv 0) (pv 1) rfl)), ?_⟩
    refine ⟨_, rfl, aF, _, rfl, .inr (kF H), by cases a <;> rfl, by rfl, ?_⟩
    refine ⟨_, by cases a <;> rfl, ?_⟩
    refine ⟨_, rfl, _, rfl, p, c.soft, dx, [], rfl, hp, (T.own (.soft a)).cl, T.sO, (by show 0 < 1000; decide), ?_⟩
    exact k _ ⟨dx, upd_same⟩ fun b o e hb => by rw [upd_ne hb]; exact e
/-! ### words -/
theorem ok_wLeave {f : Addr} {fd : FuncData} (F : Fun K "words" "Leave.words" s_Leave_words f fd) : FnOk P w K mg base CX0 1 f fd ["self"] (spWords c fun r => r = .leave) := by
  refine F.ok (show FnScope ["self"] ["self"] (defScope s_Leave_words) from ⟨rfl, rfl, rfl, by decide +kernel, rfl, by decide +kernel, by decide +kernel⟩) (fun vs H Q E h => ?_) (fun cdv A outer s H vs Q E hr h => ?_)
  · obtain ⟨p, r, rfl, _⟩ := h
    rfl
  · obtain ⟨p, r, rfl, rfl, hok, hp, k⟩ := h
    refine ⟨_, pss_one (ps_ret (pe_tup (pa_cons pe_str pa_nil))), ?_⟩
    exact ⟨by show 1 ≤ sizeLine; decide, fun t ht => k t ht⟩
theorem ok_wCount {f : Addr} {fd : FuncData} (F : Fun K "words" "Count.words" s_Count_words f fd) : FnOk P w K mg base CX0 1 f fd ["self"] (spWords c fun r => r = .count) := by
  refine F.ok (show FnScope ["self"] ["self"] (defScope s_Count_words) from ⟨rfl, rfl, rfl, by decide +kernel, rfl, by decide +kernel, by decide +kernel⟩) (fun vs H Q E h => ?_) (fun cdv A outer s H vs Q E hr h => ?_)
  · obtain ⟨p, r, rfl, _⟩ := h
    rfl
  · obtain ⟨p, r, rfl, rfl, hok, hp, k⟩ := h
    refine ⟨_, pss_one (ps_ret (pe_tup (pa_cons pe_str pa_nil))), ?_⟩
    exact ⟨by show 1 ≤ sizeLine; decide, fun t ht => k t ht⟩
theorem ok_wLend {f : Addr} {fd : FuncData} (F : Fun K "words" "Lend.words" s_Lend_words f fd) : FnOk P w K mg base CX0 1 f fd ["self"] (spWords c fun r => r = .lend) := by
  refine F.ok (show FnScope ["self"] ["self"] (defScope s_Lend_words) from ⟨rfl, rfl, rfl, by decide +kernel, rfl, by decide +kernel, by decide +kernel⟩) (fun vs H Q E h => ?_) (fun cdv A outer s H vs Q E hr h => ?_)
  · obtain ⟨p, r, rfl, _⟩ := h
    rfl
  · obtain ⟨p, r, rfl, rfl, hok, hp, k⟩ := h
    refine ⟨_, pss_one (ps_ret (pe_tup (pa_cons pe_str pa_nil))), ?_⟩
    exact ⟨by show 1 ≤ sizeLine; decide, fun t ht => k t ht⟩
theorem ok_wSoft {f : Addr} {fd : FuncData} (F : Fun K "words" "Soft.words" s_Soft_words f fd) (T : Txt' K mg c gs ge) : FnOk P w K mg base CX0 1 f fd ["self"] (spWords c fun r => ∃ a, r = .soft a) := by
  refine F.ok (show FnScope ["self"] ["self"] (defScope s_Soft_words) from ⟨rfl, rfl, rfl, by decide +kernel, rfl, by decide +kernel, by decide +kernel⟩) (fun vs H Q E h => ?_) (fun cdv A outer s H vs Q E hr h => ?_)
  · obtain ⟨p, r, rfl, _⟩ := h
    rfl
  · obtain ⟨p, r, rfl, ⟨a, rfl⟩, hok, ⟨dx, hp⟩, k⟩ := h
    refine ⟨_, pss_one (ps_ret (pe_tup (pa_cons pe_str (pa_cons (pe_fld (pv 0) rfl) pa_nil)))), ?_⟩
    exact ⟨_, rfl, p, c.soft, dx, _, _, rfl, hp, (T.own (.soft a)).cl, T.sO, fSoft_on a, by show 2 ≤ sizeLine; decide, fun t ht => k t ht⟩
theorem log_small {n : Nat} (h : n ≤ 6) : ((n : Nat) : Int).natAbs.log2 < 1920 := by
  have e : n = 0 ∨ n = 1 ∨ n = 2 ∨ n = 3 ∨ n = 4 ∨ n = 5 ∨ n = 6 := by omega
  rcases e with rfl | rfl | rfl | rfl | rfl | rfl | rfl <;> decide
theorem ok_wLimit {f : Addr} {fd : FuncData} (F : Fun K "words" "Limit.words" s_Limit_words f fd) (T : Txt' K mg c gs ge) : FnOk P w K mg base CX0 1 f fd ["self"] (spWords c fun r => ∃ n, r = .limit n) := by
  refine F.ok (show FnScope ["self"] ["self"] (defScope s_Limit_words) from ⟨rfl, rfl, rfl, by decide +kernel, rfl, by decide +kernel, by decide +kernel⟩) (fun vs H Q E h => ?_) (fun cdv A outer s H vs Q E hr h => ?_)
  · obtain ⟨p, r, rfl, _⟩ := h
    rfl
  · obtain ⟨p, r, rfl, ⟨n, rfl⟩, hok, ⟨dx, hp⟩, k⟩ := h
    have hn : 1 ≤ n ∧ n ≤ 6 := of_decide_eq_true hok
    refine ⟨_, pss_one (ps_ret (pe_tup (pa_cons pe_str (pa_cons (pe_callTy call_str_int (by rfl) T.str (by decide +kernel) (pa_cons (pe_fld (pv 0) rfl) pa_nil)) pa_nil)))), ?_⟩
    exact ⟨_, rfl, p, c.limit, dx, _, _, rfl, hp, (T.own (.limit n)).cl, T.lM, fLimit_many n, _, rfl, log_small hn.2, by show 2 ≤ sizeLine; decide, fun t ht => k t ht⟩
theorem ok_wTries {f : Addr} {fd : FuncData} (F : Fun K "words" "Tries.words" s_Tries_words f fd) (T : Txt' K mg c gs ge) : FnOk P w K mg base CX0 1 f fd ["self"] (spWords c fun r => ∃ n a, r = .tries n a) := by
  refine F.ok (show FnScope ["self"] ["self"] (defScope s_Tries_words) from ⟨rfl, rfl, rfl, by decide +kernel, rfl, by decide +kernel, by decide +kernel⟩) (fun vs H Q E h => ?_) (fun cdv A outer s H vs Q E hr h => ?_)
  · obtain ⟨p, r, rfl, _⟩ := h
    rfl
  · obtain ⟨p, r, rfl, ⟨n, a, rfl⟩, hok, ⟨dx, hp⟩, k⟩ := h
    have hn : 1 ≤ n ∧ n ≤ 3 := of_decide_eq_true hok
    refine ⟨_, pss_one (ps_ret (pe_tup (pa_cons pe_str (pa_cons (pe_callTy call_str_int (by rfl) T.str (by decide +kernel) (pa_cons (pe_fld (pv 0) rfl) pa_nil)) (pa_cons (pe_fld (pv 0) rfl) pa_nil))))), ?_⟩
    exact ⟨_, rfl, p, c.tries, dx, _, _, rfl, hp, (T.own (.tries n a)).cl, T.tM, fTries_many n a, _, rfl, log_small (by omega), _, rfl, p, c.tries, dx, _, _, rfl, hp, (T.own (.tries n a)).cl, T.tO, fTries_on n a, by show 3 ≤ sizeLine; decide, fun t ht => k t ht⟩
theorem sc_wKeep : FnScope ["self", "life"] ["self"] (defScope s_Keep_words) := ⟨rfl, rfl, rfl, by decide +kernel, rfl, by decide +kernel, by decide +kernel⟩
theorem ok_wKeep {f : Addr} {fd : FuncData} (F : Fun K "words" "Keep.words" s_Keep_words f fd) (T : Txt' K mg c gs ge) : FnOk P w K mg base CX0 1 f fd ["self"] (spWords c fun r => ∃ w l, r = .keep w l) := by
  refine F.ok sc_wKeep (fun vs H Q E h => ?_) (fun cdv A outer s H vs Q E hr h => ?_)
  · obtain ⟨p, r, rfl, _⟩ := h
    rfl
  · obtain ⟨p, r, rfl, ⟨wh, l, rfl⟩, hok, ⟨dx, hp⟩, k⟩ := h
    refine ⟨_, pss_cons (ps_set (i := 1) sc_wKeep.nd rfl (Or.inl rfl) (pe_ifExp (pt_cmp (pc_isN (pe_fld (pv 0) rfl))) pe_str (pe_callTy call_str_int (by rfl) T.str (by decide +kernel) (pa_cons (pe_fld (pv 0) rfl) pa_nil))))
      (pss_one (ps_ret (pe_tup (pa_cons pe_str (pa_cons (pe_fld (pv 0) rfl) (pa_cons (pv 1) pa_nil)))))), ?_⟩
    refine ⟨_, rfl, p, c.keep, dx, _, _, rfl, hp, (T.own (.keep wh l)).cl, T.nL, fKeep_life wh l, _, rfl, ?_⟩
    cases l with
    | none =>
      refine iteT ?_
      exact ⟨_, rfl, p, c.keep, dx, _, _, rfl, hp, (T.own (.keep wh none)).cl, T.nW, fKeep_what wh none, _, rfl, by show 3 ≤ sizeLine; decide, fun t ht => k t ht⟩
    | some n =>
      have hn : n ≤ 3 := of_decide_eq_true hok
      refine iteF ?_
      refine ⟨_, rfl, p, c.keep, dx, _, _, rfl, hp, (T.own (.keep wh (some n))).cl, T.nL, fKeep_life wh (some n), _, rfl, log_small (by omega), ?_⟩
      exact ⟨_, rfl, p, c.keep, dx, _, _, rfl, hp, (T.own (.keep wh (some n))).cl, T.nW, fKeep_what wh (some n), _, rfl, by show 3 ≤ sizeLine; decide, fun t ht => k t ht⟩
end
end Ow
end
section
namespace Ow
open PySem L2 Own
section
variable {P : Program} {w : World} {K : PySem.W.Frag} {mg : Str → Option Value} {base : Heap} {c : Cs} {gs ge : Addr}
/-- each class's words -/
def WordsOk (P : Program) (w : World) (K : PySem.W.Frag) (mg : Str → Option Value) (base : Heap) (c : Cs) : Prop :=
  ∀ r : R, ∃ (f : Addr) (fd : FuncData), Meth K (c.of r) "words" f ∧ Binds K fd ["self"] [] ∧ FnOk P w K mg base CX0 1 f fd ["self"] (spWords c fun s => s = r)
theorem no_words (r : R) : (fsOf r).lookup ("words" : Str) = none := fs_no r (by decide +kernel) (by decide +kernel) (by decide +kernel) (by decide +kernel)
theorem sc_str : FnScope ["self"] ["self"] (defScope s_Row_str) := ⟨rfl, rfl, rfl, by decide +kernel, rfl, by decide +kernel, by decide +kernel⟩
theorem ok_str {f : Addr} {fd : FuncData} (F : Fun K "__str__" "Row.__str__" s_Row_str f fd) (T : Txt' K mg c gs ge) (Wd : WordsOk P w K mg base c) : FnOk P w K mg base CX0 2 f fd ["self"] (spStr c) := by
  refine F.ok sc_str (fun vs H Q E h => ?_) (fun cdv A outer s H vs Q E hr h => ?_)
  · obtain ⟨p, r, rfl, _⟩ := h
    rfl
  · obtain ⟨p, r, rfl, hok, ⟨dx, hp⟩, k⟩ := h
    obtain ⟨fw, dw, mW, bW, GW⟩ := Wd r
    refine ⟨_, pss_one (ps_ret (pe_join pe_str (pe_meth0 (pv 0) (T.own r).cl mW GW hr bW .nil pass0))), ?_⟩
    refine ⟨⟨_, rfl⟩, _, rfl, p, dx, _, rfl, hp, no_words r, p, r, rfl, rfl, hok, ⟨dx, hp⟩, fun t ht => ?_⟩
    refine ⟨_, t, r.words, rfl, rfl, .inr (SqT.of upd_same), (text_small hok).1, ?_⟩
    exact k _ fun b o e => by rw [upd_ne (ne_of_none e ht)]; exact e
theorem sc_eq : FnScope ["self", "other"] ["self", "other"] (defScope s_Row_eq) := ⟨rfl, rfl, rfl, by decide +kernel, rfl, by decide +kernel, by decide +kernel⟩
theorem ok_eq {f : Addr} {fd ds : FuncData} (F : Fun K "__eq__" "Row.__eq__" s_Row_eq f fd) (T : Txt' K mg c gs ge) (GS : FnOk P w K mg base CX0 2 gs ds ["self"] (spStr c)) (bS : Binds K ds ["self"] []) : FnOk P w K mg base CX0 5 f fd ["self", "other"] (spEq K c) := by
  have RS := GS.raw bS .nil
  refine F.ok sc_eq (fun vs H Q E h => ?_) (fun cdv A outer s H vs Q E hr h => ?_)
  · obtain ⟨p, r, y, rfl, _⟩ := h
    rfl
  · obtain ⟨p, r, y, rfl, hok, ⟨dx, hp⟩, h⟩ := h
    refine ⟨_, pss_one (ps_ret (pe_and (pe_callB call_isi (by rfl) T.isi (by decide +kernel) (pa_cons (pv 1) (pa_cons (pe_glob (v := .ref c.row) (by rfl) T.mRow rfl) pa_nil)))
      (pe_one (pe_cmpR op_eq (pe_callTy (call_strOwn RS hr pass0) (by rfl) T.str (by decide +kernel) (pa_cons (pv 0) pa_nil)) (pe_callTy (call_strOwn RS hr pass0) (by rfl) T.str (by decide +kernel) (pa_cons (pv 1) pa_nil)) (nomark _))))), ?_⟩
    rcases h with ⟨q, s, rfl, sok, ⟨dy, hq⟩, k⟩ | ⟨⟨t, ty, hk⟩, k⟩
    · refine ⟨_, rfl, _, _, _, _, true, rfl, .own _, (T.own s).ty hq, T.isR s, true, rfl, iteT ?_⟩
      refine ⟨_, rfl, p, c.of r, dx, _, ge, rfl, hp, T.own r, p, r, rfl, hok, ⟨dx, hp⟩, fun H1 s1 => ⟨_, rfl, ?_⟩⟩
      refine ⟨_, rfl, q, c.of s, dy, _, ge, rfl, s1 _ _ hq, T.own s, q, s, rfl, sok, ⟨dy, s1 _ _ hq⟩, fun H2 s2 => ⟨_, rfl, rfl, ?_⟩⟩
      show Q (.bl (decide (V.str r.text = V.str s.text))) H2
      rw [text_eq hok sok]
      exact k _ (s1.trans s2)
    · exact ⟨_, rfl, _, _, _, _, false, rfl, .own _, ty, hk, false, rfl, iteF k⟩
/-! ### a walk over a tuple, whatever its turn -/
theorem walk_tt {K : PySem.W.Frag} {a : Addr} {xs : List V} {H0 : Hp} {Qd : Hp → Prop} {BODY : (Hp → Prop) → V → Hp → Prop} (Pv : Nat → Hp → Prop) (h0 : Pv 0 H0) (hl : ∀ i H, i ≤ xs.length → Pv i H → SqT K H a xs)
    (hs : ∀ i x H, xs[i]? = some x → Pv i H → BODY (Pv (i + 1)) x H) (hd : ∀ H, Pv xs.length H → Qd H) :
    ∃ W : Nat → Nat → Hp → Prop, (∃ m, W 0 m H0) ∧ ∀ i m H, W i m H →
      ((Itt K a).stop i H ∧ Qd H) ∨ ((Itt K a).go i H ∧ ∃ Nx : Hp → Prop, (∀ H', Nx H' → ∃ m', m' < m ∧ W (i + 1) m' H') ∧ ∀ x H', (Itt K a).yld i H x H' → BODY Nx x H') := by
  refine ⟨fun i m H => m = xs.length - i ∧ i ≤ xs.length ∧ Pv i H, ⟨xs.length, by simp, Nat.zero_le _, h0⟩, ?_⟩
  rintro i m H ⟨rfl, hi, p⟩
  have q := hl i H hi p
  by_cases hlt : i < xs.length
  · refine .inr ⟨⟨xs, xs[i], q, by simp [hlt]⟩, Pv (i + 1), fun H' p' => ⟨xs.length - (i + 1), by omega, rfl, hlt, p'⟩, fun x H' y => ?_⟩
    obtain ⟨e, y⟩ := y
    subst e
    exact hs i x _ (y xs q) p
  · have e : i = xs.length := by omega
    subst e
    exact .inl ⟨⟨xs, q, Nat.le_refl _⟩, hd H p⟩
/-! ### lists of rows -/
def RowsAt (c : Cs) (H : Hp) : List Addr → List R → Prop := Paired (RowAt c H)
theorem RowsAt.same {c : Cs} {H H' : Hp} {ps : List Addr} {rs : List R} (s : Same H H') (h : RowsAt c H ps rs) : RowsAt c H' ps rs := Paired.mapP h fun _ _ => RowAt.same s
theorem RowsAt.snoc {c : Cs} {H : Hp} : ∀ {ps : List Addr} {rs : List R} {q : Addr} {r : R}, RowsAt c H ps rs → RowAt c H q r → RowsAt c H (ps ++ [q]) (rs ++ [r])
  | _, _, _, _, .nil, h => .cons h .nil
  | _, _, _, _, .cons a t, h => .cons a (RowsAt.snoc t h)
theorem RowsAt.append {c : Cs} {H : Hp} : ∀ {ps qs : List Addr} {rs ss : List R}, RowsAt c H ps rs → RowsAt c H qs ss → RowsAt c H (ps ++ qs) (rs ++ ss)
  | _, _, _, _, .nil, h => h
  | _, _, _, _, .cons a t, h => .cons a (RowsAt.append t h)
theorem RowAt.upd {c : Cs} {H : Hp} {p D : Addr} {r : R} {xs : List V} {o : HO} (hD : H D = some (.lst xs)) (h : RowAt c H p r) : RowAt c (L2.upd H D o) p r := by
  obtain ⟨dx, e⟩ := h
  exact ⟨dx, by rw [upd_ne (ne_of e hD (by intro z; cases z))]; exact e⟩
theorem RowsAt.upd {c : Cs} {H : Hp} {ps : List Addr} {D : Addr} {rs : List R} {xs : List V} {o : HO} (hD : H D = some (.lst xs)) (h : RowsAt c H ps rs) : RowsAt c (L2.upd H D o) ps rs := Paired.mapP h fun _ _ => RowAt.upd hD
theorem same_upd {H0 H : Hp} {D : Addr} {o : HO} (s : Same H0 H) (n : H0 D = none) : Same H0 (L2.upd H D o) := fun b u e => by rw [upd_ne (ne_of_none e n)]; exact s b u e
theorem same_new {H : Hp} {D : Addr} {o : HO} (n : H D = none) : Same H (L2.upd H D o) := same_upd (Same.refl H) n
/-- a list that is being filled with rows: at D, the rows rs so far; H0 stays -/
def Fill (c : Cs) (H0 : Hp) (D : Addr) (rs : List R) (H : Hp) : Prop := ∃ ps : List Addr, H D = some (.lst (ps.map V.ref)) ∧ RowsAt c H ps rs ∧ Same H0 H
theorem Fill.nil {c : Cs} {H0 : Hp} {D : Addr} (n : H0 D = none) : Fill c H0 D [] (L2.upd H0 D (.lst [])) := ⟨[], upd_same, .nil, same_new n⟩
theorem RowsAt.len {c : Cs} {H : Hp} {ps : List Addr} {rs : List R} (h : RowsAt c H ps rs) : ps.length = rs.length := Paired.length h
/-- one more -/
theorem Fill.step {c : Cs} {H0 H H1 : Hp} {D q : Addr} {rs : List R} {r : R} (n : H0 D = none) (h : Fill c H0 D rs H) (s : Same H H1) (hq : RowAt c H1 q r) (hz : rs.length ≤ 100) :
    ∃ acc, H1 D = some (.lst acc) ∧ acc.length < sizeLine ∧ Fill c H0 D (rs ++ [r]) (L2.upd H1 D (.lst (acc ++ [V.ref q]))) := by
  obtain ⟨ps, hD, hr, s0⟩ := h
  have hD1 := s _ _ hD
  refine ⟨_, hD1, by rw [List.length_map, hr.len]; exact small1000 (by omega), ps ++ [q], ?_, ?_, same_upd (s0.trans s) n⟩
  · rw [upd_same, List.map_append]; rfl
  · exact ((hr.same s).snoc hq).upd hD1
theorem take_next {α : Type} {l : List α} {i : Nat} {x : α} (h : l[i]? = some x) : l.take (i + 1) = l.take i ++ [x] := by
  rw [List.take_add_one, h]; rfl
end
end Ow
end
section
namespace Ow
open PySem L2 Own
section
variable {P : Program} {w : World} {K : PySem.W.Frag} {mg : Str → Option Value} {base : Heap} {c : Cs} {gs ge : Addr}
/-- the classes that have an __init__, as they are made with all arguments -/
structure Makers (P : Program) (w : World) (K : PySem.W.Frag) (mg : Str → Option Value) (base : Heap) (c : Cs) (fK fT fL fS : Addr) (dK dT dL dS : FuncData) : Prop where
  mkK : Mk K c.keep fK
  gK : FnOk P w K mg base CX0 3 fK dK ["self", "what", "life"] (spKeep c)
  bK : Binds K dK ["self", "what", "life"] []
  mkT : Mk K c.tries fT
  gT : FnOk P w K mg base CX0 3 fT dT ["self", "many", "on"] (spTries c)
  bT : Binds K dT ["self", "many", "on"] []
  mkL : Mk K c.limit fL
  gL : FnOk P w K mg base CX0 3 fL dL ["self", "many"] (spLimit c)
  bL : Binds K dL ["self", "many"] []
  mkS : Mk K c.soft fS
  gS : FnOk P w K mg base CX0 3 fS dS ["self", "on"] (spSoft c)
  bS : Binds K dS ["self", "on"] []
def spEvery (c : Cs) : Sp := fun vs H Q _ => vs = [] ∧ ∀ (l : Addr) (ps : List Addr) (H' : Hp), Same H H' → H' l = some (.lst (ps.map V.ref)) → RowsAt c H' ps allRows → H l = none → Q (.ref l) H'
abbrev nEvery : List Str := ["keeps", "tries", "limits", "softs", "what", "life", "many", "on"]
theorem sc_every : FnScope nEvery [] (defScope s_every_row) := ⟨rfl, rfl, rfl, by decide +kernel, rfl, by decide +kernel, by decide +kernel⟩
def keepRows : List R := [.keep false none, .keep false (some 0), .keep false (some 1), .keep false (some 2), .keep false (some 3), .keep true none, .keep true (some 0), .keep true (some 1), .keep true (some 2), .keep true (some 3)]
def triesRows : List R := [.tries 1 false, .tries 1 true, .tries 2 false, .tries 2 true, .tries 3 false, .tries 3 true]
def limitRows : List R := [.limit 1, .limit 2, .limit 3, .limit 4, .limit 5, .limit 6]
def softRows : List R := [.soft false, .soft true]
theorem lift_row {c : Cs} {H H' : Hp} {p : Addr} {r : R} (x : RowAt c H p r) (k : Same H H') : RowAt c H' p r := x.same k
theorem made_same {H H1 : Hp} {x dx C : Addr} (nx : H x = none) (nd : H dx = none) (k : ∀ b o, (upd (upd H dx (.own x)) x (.ins C dx [])) b = some o → b ≠ x → H1 b = some o) : Same H H1 := Same.made nx nd k
theorem Fill.same {c : Cs} {H0 H H1 : Hp} {D : Addr} {rs : List R} (h : Fill c H0 D rs H) (s : Same H H1) : Fill c H0 D rs H1 := let ⟨ps, e, r, s0⟩ := h; ⟨ps, s _ _ e, r.same s, s0.trans s⟩
theorem keep_ix {i j : Nat} {x y : V} (hx : ([.str "good", .str "all"] : List V)[i]? = some x) (hy : ([.non, .int 0, .int 1, .int 2, .int 3] : List V)[j]? = some y) :
    ∃ wh l, x = .str (wS wh) ∧ y = lV l ∧ keepRows[5 * i + j]? = some (.keep wh l) ∧ (R.keep wh l).ok = true ∧ j < 5 := by
  match i, hx with
  | 0, hx =>
    cases hx
    match j, hy with
    | 0, hy => cases hy; exact ⟨false, none, rfl, rfl, rfl, rfl, by omega⟩
    | 1, hy => cases hy; exact ⟨false, some 0, rfl, rfl, rfl, rfl, by omega⟩
    | 2, hy => cases hy; exact ⟨false, some 1, rfl, rfl, rfl, rfl, by omega⟩
    | 3, hy => cases hy; exact ⟨false, some 2, rfl, rfl, rfl, rfl, by omega⟩
    | 4, hy => cases hy; exact ⟨false, some 3, rfl, rfl, rfl, rfl, by omega⟩
    | j + 5, hy => simp at hy
  | 1, hx =>
    cases hx
    match j, hy with
    | 0, hy => cases hy; exact ⟨true, none, rfl, rfl, rfl, rfl, by omega⟩
    | 1, hy => cases hy; exact ⟨true, some 0, rfl, rfl, rfl, rfl, by omega⟩
    | 2, hy => cases hy; exact ⟨true, some 1, rfl, rfl, rfl, rfl, by omega⟩
    | 3, hy => cases hy; exact ⟨true, some 2, rfl, rfl, rfl, rfl, by omega⟩
    | 4, hy => cases hy; exact ⟨true, some 3, rfl, rfl, rfl, rfl, by omega⟩
    | j + 5, hy => simp at hy
  | i + 2, hx => simp at hx
theorem tries_ix {i j : Nat} {x y : V} (hx : ([.int 1, .int 2, .int 3] : List V)[i]? = some x) (hy : ([.str "fault", .str "all"] : List V)[j]? = some y) :
    ∃ (n : Nat) (a : Bool), x = .int n ∧ y = .str (aS a) ∧ triesRows[2 * i + j]? = some (.tries n a) ∧ (R.tries n a).ok = true ∧ j < 2 := by
  match i, hx with
  | 0, hx =>
    cases hx
    match j, hy with
    | 0, hy => cases hy; exact ⟨1, false, rfl, rfl, rfl, rfl, by omega⟩
    | 1, hy => cases hy; exact ⟨1, true, rfl, rfl, rfl, rfl, by omega⟩
    | j + 2, hy => simp at hy
  | 1, hx =>
    cases hx
    match j, hy with
    | 0, hy => cases hy; exact ⟨2, false, rfl, rfl, rfl, rfl, by omega⟩
    | 1, hy => cases hy; exact ⟨2, true, rfl, rfl, rfl, rfl, by omega⟩
    | j + 2, hy => simp at hy
  | 2, hx =>
    cases hx
    match j, hy with
    | 0, hy => cases hy; exact ⟨3, false, rfl, rfl, rfl, rfl, by omega⟩
    | 1, hy => cases hy; exact ⟨3, true, rfl, rfl, rfl, rfl, by omega⟩
    | j + 2, hy => simp at hy
  | i + 3, hx => simp at hx
theorem limit_ix {i : Nat} {x : V} (hx : ([.int 1, .int 2, .int 3, .int 4, .int 5, .int 6] : List V)[i]? = some x) : ∃ n : Nat, x = .int n ∧ limitRows[i]? = some (.limit n) ∧ (R.limit n).ok = true := by
  match i, hx with
  | 0, hx => cases hx; exact ⟨1, rfl, rfl, rfl⟩
  | 1, hx => cases hx; exact ⟨2, rfl, rfl, rfl⟩
  | 2, hx => cases hx; exact ⟨3, rfl, rfl, rfl⟩
  | 3, hx => cases hx; exact ⟨4, rfl, rfl, rfl⟩
  | 4, hx => cases hx; exact ⟨5, rfl, rfl, rfl⟩
  | 5, hx => cases hx; exact ⟨6, rfl, rfl, rfl⟩
  | i + 6, hx => simp at hx
theorem soft_ix {i : Nat} {x : V} (hx : ([.str "fault", .str "all"] : List V)[i]? = some x) : ∃ a : Bool, x = .str (aS a) ∧ softRows[i]? = some (.soft a) := by
  match i, hx with
  | 0, hx => cases hx; exact ⟨false, rfl, rfl⟩
  | 1, hx => cases hx; exact ⟨true, rfl, rfl⟩
  | i + 2, hx => simp at hx
theorem ok_every {f fK fT fL fS : Addr} {fd dK dT dL dS : FuncData} (F : Fun K "every_row" "every_row" s_every_row f fd) (T : Txt' K mg c gs ge) (M : Makers P w K mg base c fK fT fL fS dK dT dL dS) : FnOk P w K mg base CX0 5 f fd [] (spEvery c) := by
  refine F.ok sc_every (fun vs H Q E h => ?_) (fun cdv A outer s H vs Q E hr h => ?_)
  · obtain ⟨rfl, _⟩ := h
    rfl
  · obtain ⟨rfl, k⟩ := h
    obtain ⟨aA, mA, kA⟩ := T.cKept
    obtain ⟨aL, mL, kL⟩ := T.cLives
    obtain ⟨aM, mM, kM⟩ := T.cAsked
    obtain ⟨aT, mT, kT⟩ := T.cTries
    obtain ⟨aF, mF, kF⟩ := T.cFaults
    refine ⟨_, pss_cons (ps_setLc2 (i := 0) (own := [("what", 4), ("life", 5)]) (vs1 := [5]) (g := gName 4) (g1 := gName 5) (wi1 := iTup K (tTup (tCons (tC .non) (StX.tStar K (tC (.ref aL)) tNil)))) (tt := tYes) (tt1 := tYes) rfl sc_every.nd rfl rfl (sw_true rfl rfl rfl (by decide +kernel)) (pi_tup (pe_glob (v := .ref aA) (by rfl) mA rfl))
        (blkOk_by (N := nEvery) (sc := defScope s_every_row) (by decide +kernel)) (by decide) (fun _ _ _ _ _ => pg_name (i := 4) sc_every.nd rfl (Or.inl rfl)) (fun _ _ _ _ _ => pts_nil)
        (fun _ _ _ _ _ => pi_tup (pe_tup (pa_cons pe_non (StX.pa_star (pe_glob (v := .ref aL) (by rfl) mL rfl) pa_nil)))) (fun _ _ _ _ _ => pg_name (i := 5) sc_every.nd rfl (Or.inl rfl)) (fun _ _ _ _ _ => pts_nil)
        (fun _ _ _ _ _ => pe_make M.mkK M.gK hr (by rfl) T.mKeep M.bK .nil pass0 (pa_cons (pv 4) (pa_cons (pv 5) pa_nil))))
      (pss_cons (ps_setLc2 (i := 1) (own := [("many", 6), ("on", 7)]) (vs1 := [7]) (g := gName 6) (g1 := gName 7) (wi1 := iTup K (tC (.ref aF))) (tt := tYes) (tt1 := tYes) rfl sc_every.nd rfl rfl (sw_true rfl rfl rfl (by decide +kernel)) (pi_tup (pe_glob (v := .ref aM) (by rfl) mM rfl))
        (blkOk_by (N := nEvery) (sc := defScope s_every_row) (by decide +kernel)) (by decide) (fun _ _ _ _ _ => pg_name (i := 6) sc_every.nd rfl (Or.inl rfl)) (fun _ _ _ _ _ => pts_nil)
        (fun _ _ _ _ _ => pi_tup (pe_glob (v := .ref aF) (by rfl) mF rfl)) (fun _ _ _ _ _ => pg_name (i := 7) sc_every.nd rfl (Or.inl rfl)) (fun _ _ _ _ _ => pts_nil)
        (fun _ _ _ _ _ => pe_make M.mkT M.gT hr (by rfl) T.mTries M.bT .nil pass0 (pa_cons (pv 6) (pa_cons (pv 7) pa_nil))))
      (pss_cons (ps_setLc (i := 2) (own := [("many", 6)]) (g := gName 6) (tt := tYes) rfl sc_every.nd rfl rfl (sw_true rfl rfl rfl (by decide +kernel)) (pi_tup (pe_glob (v := .ref aT) (by rfl) mT rfl))
        (blkOk_by (N := nEvery) (sc := defScope s_every_row) (by decide +kernel)) (fun _ _ _ _ _ => pg_name (i := 6) sc_every.nd rfl (Or.inl rfl)) (fun _ _ _ _ _ => pts_nil)
        (fun _ _ _ _ _ => pe_make M.mkL M.gL hr (by rfl) T.mLimit M.bL .nil pass0 (pa_cons (pv 6) pa_nil)))
      (pss_cons (ps_setLc (i := 3) (own := [("on", 7)]) (g := gName 7) (tt := tYes) rfl sc_every.nd rfl rfl (sw_true rfl rfl rfl (by decide +kernel)) (pi_tup (pe_glob (v := .ref aF) (by rfl) mF rfl))
        (blkOk_by (N := nEvery) (sc := defScope s_every_row) (by decide +kernel)) (fun _ _ _ _ _ => pg_name (i := 7) sc_every.nd rfl (Or.inl rfl)) (fun _ _ _ _ _ => pts_nil)
        (fun _ _ _ _ _ => pe_make M.mkS M.gS hr (by rfl) T.mSoft M.bS .nil pass0 (pa_cons (pv 7) pa_nil)))
      (pss_one (ps_ret (pe_lst (StX.pa_star (pv 0) (StX.pa_star (pv 1) (StX.pa_star (pv 2) (StX.pa_star (pv 3) (pa_cons (pe_makeO T.oLeave (by rfl) T.mLeave) (pa_cons (pe_makeO T.oCount (by rfl) T.mCount) (pa_cons (pe_makeO T.oLend (by rfl) T.mLend) pa_nil)))))))))))))
      , ?_⟩
    refine ⟨aA, rfl, ⟨_, kA H⟩, fun D1 n1 => ?_⟩
    refine walk_tt (K := K) (a := aA) (xs := [.str "good", .str "all"]) (fun i H2 => Fill c H D1 (keepRows.take (5 * i)) H2) (Fill.nil n1) (fun i H2 _ _ => kA H2) (fun i x H2 hx F2 => ?_) (fun H2 F2 => ?_)
    · -- a turn of the outer for: the inner one
      refine ⟨by rfl, aL, _, rfl, .inl (kL H2), by show 5 ≤ sizeLine; decide, fun t ht => ⟨t, rfl, ⟨_, SqT.of upd_same⟩, ?_⟩⟩
      refine walk_tt (K := K) (a := t) (xs := [.non, .int 0, .int 1, .int 2, .int 3]) (fun j H3 => Fill c H D1 (keepRows.take (5 * i + j)) H3 ∧ H3 t = some (.tup [.non, .int 0, .int 1, .int 2, .int 3])) ⟨F2.same (same_new ht), upd_same⟩ (fun j H3 _ z => SqT.of z.2) (fun j y H3 hy F3 => ?_) (fun H3 F3 => ?_)
      · obtain ⟨wh, l, rfl, rfl, hk, hok, hj⟩ := keep_ix hx hy
        refine ⟨by rfl, _, rfl, _, rfl, fun q dq nq ndq neq => ⟨q, dq, wh, l, rfl, hok, upd_same, fun H4 r4 k4 => ⟨rfl, ?_⟩⟩⟩
        have s4 := made_same nq ndq k4
        obtain ⟨acc, e1, e2, e3⟩ := F3.1.step n1 s4 r4 (by rw [List.length_take]; show min _ 10 ≤ 100; omega)
        refine ⟨acc, e1, e2, ?_, ?_⟩
        · rw [← Nat.add_assoc, take_next hk]
          exact e3
        · rw [upd_ne (ne_of (s4 _ _ F3.2) e1 (by intro z; cases z))]
          exact s4 _ _ F3.2
      · exact F3.1
    · -- keeps is made
      obtain ⟨ps1, L1, r1, s1⟩ := F2
      refine ⟨aM, rfl, ⟨_, kM H2⟩, fun D2 n2 => ?_⟩
      refine walk_tt (K := K) (a := aM) (xs := [.int 1, .int 2, .int 3]) (fun i H3 => Fill c H2 D2 (triesRows.take (2 * i)) H3) (Fill.nil n2) (fun i H3 _ _ => kM H3) (fun i x H3 hx F3 => ?_) (fun H3 F3 => ?_)
      · refine ⟨by rfl, aF, rfl, ⟨_, kF H3⟩, ?_⟩
        refine walk_tt (K := K) (a := aF) (xs := [.str "fault", .str "all"]) (fun j H4 => Fill c H2 D2 (triesRows.take (2 * i + j)) H4) F3 (fun j H4 _ _ => kF H4) (fun j y H4 hy F4 => ?_) (fun H4 F4 => F4)
        obtain ⟨n, a, rfl, rfl, hk, hok, hj⟩ := tries_ix hx hy
        refine ⟨by rfl, _, rfl, _, rfl, fun q dq nq ndq neq => ⟨q, dq, n, a, rfl, hok, upd_same, fun H5 r5 k5 => ⟨rfl, ?_⟩⟩⟩
        obtain ⟨acc, e1, e2, e3⟩ := F4.step n2 (made_same nq ndq k5) r5 (by rw [List.length_take]; show min _ 6 ≤ 100; omega)
        refine ⟨acc, e1, e2, ?_⟩
        rw [← Nat.add_assoc, take_next hk]
        exact e3
      · obtain ⟨ps2, L2, r2, s2⟩ := F3
        refine ⟨aT, rfl, ⟨_, kT H3⟩, fun D3 n3 => ?_⟩
        refine walk_tt (K := K) (a := aT) (xs := [.int 1, .int 2, .int 3, .int 4, .int 5, .int 6]) (fun i H4 => Fill c H3 D3 (limitRows.take i) H4) (Fill.nil n3) (fun i H4 _ _ => kT H4) (fun i x H4 hx F4 => ?_) (fun H4 F4 => ?_)
        · obtain ⟨n, rfl, hk, hok⟩ := limit_ix hx
          refine ⟨by rfl, _, rfl, fun q dq nq ndq neq => ⟨q, dq, n, rfl, hok, upd_same, fun H5 r5 k5 => ⟨rfl, ?_⟩⟩⟩
          obtain ⟨acc, e1, e2, e3⟩ := F4.step n3 (made_same nq ndq k5) r5 (by rw [List.length_take]; show min _ 6 ≤ 100; omega)
          refine ⟨acc, e1, e2, ?_⟩
          rw [take_next hk]
          exact e3
        · obtain ⟨ps3, L3, r3, s3⟩ := F4
          refine ⟨aF, rfl, ⟨_, kF H4⟩, fun D4 n4 => ?_⟩
          refine walk_tt (K := K) (a := aF) (xs := [.str "fault", .str "all"]) (fun i H5 => Fill c H4 D4 (softRows.take i) H5) (Fill.nil n4) (fun i H5 _ _ => kF H5) (fun i x H5 hx F5 => ?_) (fun H5 F5 => ?_)
          · obtain ⟨a, rfl, hk⟩ := soft_ix hx
            refine ⟨by rfl, _, rfl, fun q dq nq ndq neq => ⟨q, dq, a, rfl, upd_same, fun H6 r6 k6 => ⟨rfl, ?_⟩⟩⟩
            obtain ⟨acc, e1, e2, e3⟩ := F5.step n4 (made_same nq ndq k6) r6 (by rw [List.length_take]; show min _ 2 ≤ 100; omega)
            refine ⟨acc, e1, e2, ?_⟩
            rw [take_next hk]
            exact e3
          · obtain ⟨ps4, L4, r4, s4⟩ := F5
            have t4 : Same H3 H5 := s3.trans s4
            have t3 : Same H2 H5 := s2.trans t4
            have t2 : Same H H5 := s1.trans t3
            refine ⟨_, rfl, D1, _, rfl, .inr (SqL.of (t3 _ _ L1)), _, rfl, D2, _, rfl, .inr (SqL.of (t4 _ _ L2)), _, rfl, D3, _, rfl, .inr (SqL.of (s4 _ _ L3)), _, rfl, D4, _, rfl, .inr (SqL.of L4), ?_⟩
            intro x1 d1 nx1 nd1 ne1
            intro x2 d2 nx2 nd2 ne2
            intro x3 d3 nx3 nd3 ne3
            have u1 : Same H5 (upd (upd H5 d1 (.own x1)) x1 (.ins c.leave d1 [])) := same_upd (same_new nd1) nx1
            have u2 := same_upd (same_new (H := upd (upd H5 d1 (.own x1)) x1 (.ins c.leave d1 [])) (o := .own x2) nd2) (o := .ins c.count d2 []) nx2
            have u3 := same_upd (same_new (H := upd (upd (upd (upd H5 d1 (.own x1)) x1 (.ins c.leave d1 [])) d2 (.own x2)) x2 (.ins c.count d2 [])) (o := .own x3) nd3) (o := .ins c.lend d3 []) nx3
            have u : Same H5 _ := (u1.trans u2).trans u3
            have a1 : RowAt c _ x1 .leave := lift_row (H := upd (upd H5 d1 (.own x1)) x1 (.ins c.leave d1 [])) ⟨d1, upd_same⟩ (u2.trans u3)
            have a2 : RowAt c _ x2 .count := lift_row (H := upd (upd (upd (upd H5 d1 (.own x1)) x1 (.ins c.leave d1 [])) d2 (.own x2)) x2 (.ins c.count d2 [])) ⟨d2, upd_same⟩ u3
            have a3 : RowAt c (upd (upd (upd (upd (upd (upd H5 d1 (.own x1)) x1 (.ins c.leave d1 [])) d2 (.own x2)) x2 (.ins c.count d2 [])) d3 (.own x3)) x3 (.ins c.lend d3 [])) x3 .lend := ⟨d3, upd_same⟩
            have rr := (((r1.same (t3.trans u)).append (r2.same (t4.trans u))).append (r3.same (s4.trans u))).append (r4.same u)
            have r7 := ((rr.snoc a1).snoc a2).snoc a3
            have hl := r7.len
            refine ⟨?_, fun l hl7 => ?_⟩
            · have q1 : ps1.length ≤ 10 := by rw [r1.len]; exact List.length_take_le' _ _
              have q2 : ps2.length ≤ 6 := by rw [r2.len]; exact List.length_take_le' _ _
              have q3 : ps3.length ≤ 6 := by rw [r3.len]; exact List.length_take_le' _ _
              have q4 : ps4.length ≤ 2 := by rw [r4.len]; exact List.length_take_le' _ _
              refine small_len ?_
              simp only [List.length_append, List.length_map, List.length_cons, List.length_nil]
              omega
            · refine k l (((((((ps1 ++ ps2) ++ ps3) ++ ps4) ++ [x1]) ++ [x2]) ++ [x3])) _ (same_upd (t2.trans u) (Same.free (t2.trans u) hl7)) ?_ ?_ (Same.free (t2.trans u) hl7)
              · rw [upd_same]
                simp
              · exact RowsAt.same (same_new hl7) r7

/-! ### Row.read -/
def spRead (c : Cs) : Sp := fun vs H Q _ => ∃ (cl : V) (r : R), vs = [cl, .str r.text] ∧ r.ok = true ∧ ∀ (p : Addr) (H' : Hp), Same H H' → RowAt c H' p r → Q (.ref p) H'
theorem pair_get {α β : Type} {F : α → β → Prop} : ∀ {xs : List α} {ys : List β} {i : Nat} {x : α}, Paired F xs ys → xs[i]? = some x → ∃ y, ys[i]? = some y ∧ F x y
  | _, _, _, _, .nil, e => by simp at e
  | _, _, 0, _, .cons r _, e => by simp at e; subst e; exact ⟨_, rfl, r⟩
  | _, _, i + 1, x, .cons _ t, e => by
    obtain ⟨y, h1, h2⟩ := pair_get (i := i) (x := x) t (by simpa using e)
    exact ⟨y, by simpa using h1, h2⟩
abbrev nRead : List Str := ["cls", "text", "row"]
theorem sc_read : FnScope nRead ["cls", "text"] (defScope s_Row_read) := ⟨rfl, rfl, rfl, by decide +kernel, rfl, by decide +kernel, by decide +kernel⟩
theorem ok_read {f fE : Addr} {fd dE ds : FuncData} (F : Fun K "read" "Row.read" s_Row_read f fd) (T : Txt' K mg c gs ge) (GE : FnOk P w K mg base CX0 5 fE dE [] (spEvery c)) (bE : Binds K dE [] []) (mE : mg "every_row" = some (.ref fE)) (kE : PySem.W.keepIn K (.ref fE) = true)
    (GS : FnOk P w K mg base CX0 2 gs ds ["self"] (spStr c)) (bS : Binds K ds ["self"] []) : FnOk P w K mg base CX0 6 f fd ["cls", "text"] (spRead c) := by
  have RS := GS.raw bS .nil
  refine F.ok sc_read (fun vs H Q E h => ?_) (fun cdv A outer s H vs Q E hr h => ?_)
  · obtain ⟨cl, r, rfl, _⟩ := h
    rfl
  · obtain ⟨cl, r, rfl, hok, k⟩ := h
    refine ⟨_, pss_cons (ps_for PassesOwn.never rfl (pi_list (pe_call0 GE hr (by rfl) mE kE bE .nil pass0)) (pg_name (i := 2) sc_read.nd rfl (Or.inl rfl))
        (pss_one (ps_if (pt_cmpR op_eq (pe_callTy (call_strOwn RS (hr.mono (by decide)) pass0) (by rfl) T.str (by decide +kernel) (pa_cons (pv 2) pa_nil)) (pv 1) (nomark _)) (pss_one (ps_ret (pv 2))) pss_nil)))
      pss_never, ?_⟩
    refine ⟨rfl, fun l ps H1 s1 hl rr nl => ⟨l, rfl, ⟨_, SqL.of hl⟩, ?_⟩⟩
    obtain ⟨j, hj⟩ : ∃ j, allRows[j]? = some r := List.getElem?_of_mem (mem_all hok)
    have hj27 : j < 27 := (List.getElem?_eq_some_iff.mp hj).1
    refine for_list (K := K) (a := l) (xs := ps.map V.ref) (fun i σ H2 => i ≤ j ∧ ∃ v, σ = [some cl, some (.str r.text), v] ∧ Same H1 H2) ⟨Nat.zero_le _, none, rfl, Same.refl _⟩ (fun i σ H2 _ ⟨_, _, _, s2⟩ => s2.seq (SqL.of hl)) ?_ ?_
    · rintro i y σ H2 hi ⟨hij, v, rfl, s2⟩
      rw [List.getElem?_map] at hi
      obtain ⟨p, hp, rfl⟩ : ∃ p, ps[i]? = some p ∧ y = V.ref p := by
        cases e : ps[i]? with
        | none => rw [e] at hi; cases hi
        | some p => rw [e] at hi; exact ⟨p, rfl, (Option.some.inj hi).symm⟩
      obtain ⟨s, hs, ⟨dx, hx⟩⟩ := pair_get rr hp
      have sok : s.ok = true := all_ok s (List.mem_of_getElem? hs)
      have hx2 := s2 _ _ hx
      refine ⟨_, rfl, p, c.of s, dx, _, ge, rfl, hx2, T.own s, p, s, rfl, sok, ⟨dx, hx2⟩, fun H3 s3 => ⟨_, rfl, _, rfl, rfl, _, rfl, ?_⟩⟩
      by_cases e : s = r
      · subst e
        have e1 : decide (V.str s.text = V.str s.text) = true := decide_eq_true rfl
        rw [e1]
        refine iteT ?_
        exact ⟨_, rfl, k p H3 ((s1.trans s2).trans s3) ⟨dx, s3 _ _ hx2⟩⟩
      · have e1 : decide (V.str s.text = V.str r.text) = false := by rw [text_eq sok hok]; exact decide_eq_false e
        rw [e1]
        refine iteF ?_
        have hne : i ≠ j := fun z => e (Option.some.inj ((by rw [← hs, z, hj] : some s = some r)))
        exact ⟨by omega, _, rfl, s2.trans s3⟩
    · rintro σ H2 ⟨hij, _⟩
      have hlen : ps.length = 27 := rr.len
      rw [List.length_map, hlen] at hij
      exact absurd hj27 (by omega)
end
end Ow
end
section
namespace Ow
open PySem L2 Own
/-! ### the law's draws -/
section
variable {P : Program} {w : World} {K : PySem.W.Frag} {mg : Str → Option Value} {base : Heap} {c : Cs} {gs ge : Addr}
def dl (g : Addr) (m : Int) : List (Key × V) := [(.inr "great", .ref g), (.inr "mixed", .int m)]
/-- a deal: its dict at d, its great numbers' list at g -/
def DealIs (d g : Addr) (H : Hp) (m : Int) (ns : List Int) : Prop := H d = some (.dK (dl g m)) ∧ H g = some (.lst (ns.map V.int)) ∧ (0 ≤ m ∧ m < 2147483647) ∧ (∀ n ∈ ns, 0 ≤ n) ∧ ns.length ≤ 63
def Deal (d g : Addr) (H : Hp) : Prop := ∃ m ns, DealIs d g H m ns
/-- all but the deal is as it was -/
def Kp (d g : Addr) (H H' : Hp) : Prop := ∀ b o, H b = some o → b ≠ d → b ≠ g → H' b = some o
theorem Kp.refl {d g : Addr} (H : Hp) : Kp d g H H := fun _ _ e _ _ => e
theorem Kp.trans {d g : Addr} {H H1 H2 : Hp} (a : Kp d g H H1) (b : Kp d g H1 H2) : Kp d g H H2 := fun x o e h1 h2 => b x o (a x o e h1 h2) h1 h2
theorem Kp.of {d g : Addr} {H H' : Hp} (s : Same H H') : Kp d g H H' := fun b o e _ _ => s b o e
theorem Deal.same {d g : Addr} {H H' : Hp} (s : Same H H') (h' : Deal d g H) : Deal d g H' := let ⟨m, ns, a, b, r⟩ := h'; ⟨m, ns, s _ _ a, s _ _ b, r⟩
theorem DealIs.same {d g : Addr} {H H' : Hp} {m : Int} {ns : List Int} (s : Same H H') (h : DealIs d g H m ns) : DealIs d g H' m ns := let ⟨a, b, r⟩ := h; ⟨s _ _ a, s _ _ b, r⟩
theorem Deal.free {d g : Addr} {H H' : Hp} (h : Deal d g H) (h' : Deal d g H') (k : Kp d g H H') {l : Addr} (e : H' l = none) : H l = none := by
  cases q : H l with
  | none => rfl
  | some o =>
    by_cases h1 : l = d
    · obtain ⟨_, _, z, _⟩ := h'
      rw [← h1, e] at z; cases z
    · by_cases h2 : l = g
      · obtain ⟨_, _, _, z, _⟩ := h'
        rw [← h2, e] at z; cases z
      · rw [k l o q h1 h2] at e; cases e
theorem Deal.ne {d g : Addr} {H : Hp} (h : Deal d g H) : d ≠ g := by
  obtain ⟨_, _, a, b, _⟩ := h
  exact ne_of a b (by intro z; cases z)
theorem kGM : ¬ (("great" : Str) = "mixed") := by decide +kernel
theorem dl_great (g : Addr) (m : Int) : valV (dl g m) (.inr "great") = some (.ref g) := valV_pos rfl
theorem dl_mixed (g : Addr) (m : Int) : valV (dl g m) (.inr "mixed") = some (.int m) := by
  unfold dl
  rw [valV_neg (by intro z; exact kGM (Sum.inr.inj z))]
  exact valV_pos rfl
theorem dl_put (g : Addr) (m y : Int) : putK (dl g m) (.inr "mixed") (.int y) = dl g y := by
  have h1 : ¬ ((Sum.inr ("great" : Str) : Key) = Sum.inr ("mixed" : Str)) := by intro z; exact kGM (Sum.inr.inj z)
  unfold putK dl
  simp [h1]
def spDraw : Sp := fun vs H Q _ => ∃ (d g : Addr) (wd : Int), vs = [.ref d, .int wd] ∧ 0 < wd ∧ wd < 1073741824 ∧ Deal d g H ∧ ∀ (v : Int) (H' : Hp), 0 ≤ v → v < wd → Deal d g H' → Kp d g H H' → Q (.int v) H'
/-- the built-ins' names are free -/
structure Bn (mg : Str → Option Value) : Prop where
  int_ : mg "int" = none
  abs_ : mg "abs" = none
  len_ : mg "len" = none
  range_ : mg "range" = none
  list_ : mg "list" = none
  str_ : mg "str" = none
abbrev nDraw : List Str := ["_law_deal", "_law_wide", "_law_great", "_law_cell"]
theorem sc_draw : FnScope nDraw ["_law_deal", "_law_wide"] (defScope s_law_draw) := ⟨rfl, rfl, rfl, by decide +kernel, rfl, by decide +kernel, by decide +kernel⟩
theorem dp_ints {H : Hp} {l : Addr} {ns : List Int} (h : H l = some (.lst (ns.map V.int))) : Dp K H (.ref l) (.list (ns.map PyData.int)) := by
  refine .lst (SqL.of h) ?_
  clear h
  induction ns with
  | nil => exact .nil
  | cons n r ih => exact .cons (.int n) ih
theorem sh_ints : ∀ ns : List Int, SeqAt.shaped (.list (ns.map PyData.int)) = true := by
  intro ns
  have h1 : PyData.canLayAll0 (ns.map PyData.int) = true := by
    induction ns with
    | nil => rfl
    | cons n r ih => rw [List.map_cons, PyData.canLayAll0, ih]; rfl
  have h2 : PyData.depthAll (ns.map PyData.int) = 0 := by
    induction ns with
    | nil => rfl
    | cons n r ih =>
      rw [List.map_cons, PyData.depthAll, ih (by rw [List.map_cons, PyData.canLayAll0] at h1; exact (Bool.and_eq_true_iff.mp h1).2)]; rfl
  unfold SeqAt.shaped
  rw [PyData.canLay0, h1, PyData.depth, h2]
  rfl
theorem eqv_nil (ns : List Int) : PyData.eqv (.list (ns.map PyData.int)) (.list []) = decide (ns = []) := by
  cases ns with
  | nil => rfl
  | cons n r => rfl
theorem sh_nil : SeqAt.shaped (.list []) = true := sh_ints []
theorem ok_draw {f : Addr} {fd : FuncData} (F : Fun K "_law_draw" "_law_draw" s_law_draw f fd) (B : Bn mg) : FnOk P w K mg base CX0 1 f fd ["_law_deal", "_law_wide"] spDraw := by
  refine F.ok sc_draw (fun vs H Q E h => ?_) (fun cdv A outer s H vs Q E hr h => ?_)
  · obtain ⟨d, g, wd, rfl, _⟩ := h
    rfl
  · obtain ⟨d, g, wd, rfl, hw0, hw1, ⟨m, ns, D⟩, k⟩ := h
    have hu := hu_of hr
    refine ⟨_, pss_cons (ps_set (i := 2) sc_draw.nd rfl (Or.inl rfl) (pe_dget hu (pv 0) pe_str (fun _ _ => rfl)))
      (C8.pss_cut (ps_while PassesOwn.never (PW.pt (pw_and (pt_cmpR (op_neD hr.units) (pv 2) (pe_lst pa_nil) (nomark _)) (pw_and1 (pt_cmpR op_eq (pe_ix ix_list (pv 2) (pe_un un_neg pe_int) (fun _ _ => rfl)) pe_int (nomark _)))))
        (pss_one (ps_expr (pe_bm0 PySem.F.plainAttrs_list PySem.F.slot_list_pop PySem.F.type_list_pop mt_pop (pv 2)))))
      (pss_cons (ps_if (pt_cmpR (op_neD hr.units) (pv 2) (pe_lst pa_nil) (nomark _))
        (pss_cons (ps_set (i := 3) sc_draw.nd rfl (Or.inl rfl) (pe_bm0 PySem.F.plainAttrs_list PySem.F.slot_list_pop PySem.F.type_list_pop mt_pop (pv 2)))
          (pss_cons (ps_expr (pe_bm PySem.F.plainAttrs_list PySem.F.slot_list_append PySem.F.type_list_append mt_append (pv 2) (pa_cons (pe_op op_fdiv (pv 3) (pv 1)) pa_nil)))
          (pss_one (ps_ret (pe_op op_mod (pe_callTy call_int1 (by rfl) B.int_ (by decide +kernel) (pa_cons (pv 3) pa_nil)) (pv 1))))))
        pss_nil)
      (pss_cons (ps_dput hu (pv 0) pe_str (pe_op op_mod (pe_callTy call_int1 (by rfl) B.int_ (by decide +kernel) (pa_cons (pe_op op_add (pe_op op_mul (pe_dget hu (pv 0) pe_str (fun _ _ => rfl)) pe_int) pe_int) pa_nil)) pe_int) rfl)
      (pss_one (ps_ret (pe_op op_mod (pe_callTy call_int1 (by rfl) B.int_ (by decide +kernel) (pa_cons (pe_op op_fdiv (pe_dget hu (pv 0) pe_str (fun _ _ => rfl)) pe_int) pa_nil)) (pv 1))))))), ?_⟩
    obtain ⟨h1, h2, hm, hn, hl⟩ := id D
    refine ⟨_, rfl, d, _, rfl, by rw [← dl_great g m]; exact DGet.k (k := Sum.inr "great") h1, ?_⟩
    -- the while: the zeros at the end go
    refine ⟨fun σ H2 => σ = [some (.ref d), some (.int wd), some (.ref g), none] ∧ (∃ ns2, DealIs d g H2 m ns2) ∧ Kp d g H H2,
      ⟨fun z σ H2 => ∃ ns2 : List Int, z = ns2.length ∧ σ = [some (.ref d), some (.int wd), some (.ref g), none] ∧ DealIs d g H2 m ns2 ∧ Kp d g H H2, ⟨ns.length, ns, rfl, rfl, D, Kp.refl H⟩, ?_⟩, ?_⟩
    · rintro z σ H2 ⟨ns2, rfl, rfl, D2, k2⟩
      obtain ⟨a1, a2, a3, a4, a5⟩ := id D2
      refine ⟨_, rfl, by show 0 ≤ sizeLine; decide, fun e he => ?_⟩
      have se := same_new (o := .lst []) he
      have a2' := se _ _ a2
      refine ⟨_, _, dp_ints a2', .lst (SqL.of upd_same) .nil, sh_ints ns2, sh_nil, _, rfl, ?_⟩
      rw [eqv_nil]
      have D2' := D2.same se
      have k2' := k2.trans (Kp.of se)
      rcases List.eq_nil_or_concat ns2 with rfl | ⟨l, y, ey⟩
      · refine iteF ?_
        refine iteF ?_
        exact ⟨rfl, ⟨_, D2'⟩, k2'⟩
      · rw [List.concat_eq_append] at ey
        subst ey
        have e1 : decide (l ++ [y] = []) = false := decide_eq_false (by simp)
        rw [e1]
        refine iteT ?_
        have ea : (l ++ [y]).map V.int = l.map V.int ++ [V.int y] := by rw [List.map_append]; rfl
        refine ⟨_, rfl, _, rfl, g, (l ++ [y]).map V.int, -1, .int y, rfl, rfl, SqL.of a2', by rw [ea]; exact atI_last _ _, rfl, _, rfl, ?_⟩
        by_cases e0 : y = 0
        · have e2 : decide (V.int y = V.int 0) = true := decide_eq_true (by rw [e0])
          rw [e2]
          refine iteT ⟨fun σ' H' => σ' = [some (.ref d), some (.int wd), some (.ref g), none] ∧ DealIs d g H' m l ∧ Kp d g H H', ?_, ?_⟩
          · rintro σ' H' ⟨rfl, D3, k3⟩
            exact ⟨l.length, by simp, l, rfl, rfl, D3, k3⟩
          · refine ⟨_, rfl, .inl ⟨rfl, _, SqL.of a2'⟩, g, _, .int y, rfl, rfl, a2', by rw [ea]; simp, rfl, ⟨?_, ?_, a3, fun n hn => a4 n (List.mem_append_left _ hn), ?_⟩, ?_⟩
            · rw [upd_ne (ne_of (se _ _ a1) a2' (by intro z; cases z))]
              exact se _ _ a1
            · rw [upd_same, ea, List.dropLast_concat]
            · rw [List.length_append] at a5; omega
            · exact k2'.trans fun b o eb _ hg => by rw [upd_ne hg]; exact eb
        · have e2 : decide (V.int y = V.int 0) = false := decide_eq_false (fun z => e0 (V.int.inj z))
          rw [e2]
          refine iteF ?_
          exact ⟨rfl, ⟨_, D2'⟩, k2'⟩
    · rintro σ H2 ⟨rfl, ⟨ns2, D2⟩, k2⟩
      obtain ⟨a1, a2, a3, a4, a5⟩ := id D2
      refine ⟨_, rfl, by show 0 ≤ sizeLine; decide, fun e he => ?_⟩
      have se := same_new (o := .lst []) he
      have a1' := se _ _ a1
      have a2' := se _ _ a2
      have D2' := D2.same se
      have k2' := k2.trans (Kp.of se)
      refine ⟨_, _, dp_ints a2', .lst (SqL.of upd_same) .nil, sh_ints ns2, sh_nil, _, rfl, ?_⟩
      rw [eqv_nil]
      rcases List.eq_nil_or_concat ns2 with rfl | ⟨l, y, ey⟩
      · refine iteF ?_
        -- the mixed number
        have gm : ∀ {H3 : Hp} {y : Int}, H3 d = some (.dK (dl g y)) → DGet H3 d (.str "mixed") (some (.int y)) := fun {H3 y} e3 => by rw [← dl_mixed g y]; exact DGet.k (k := Sum.inr "mixed") e3
        have hp := DPut.k (k := (Sum.inr ("mixed" : Str) : Key)) (v := .int ((m * 30671 + 59) % 2147483647)) a1' (by show 2 < sizeLine; decide)
        rw [dl_put] at hp
        refine ⟨_, rfl, d, _, rfl, gm a1', _, _, rfl, rfl, .inl ⟨by omega, by omega⟩, _, _, rfl, rfl, .inl ⟨_, rfl, _, _, rfl, rfl, by show (0 : Int) < 2147483647; decide, _, rfl, d, _, rfl, hp, ?_⟩⟩
        refine ⟨_, rfl, d, _, rfl, gm upd_same, _, _, rfl, rfl, ⟨by decide, by decide⟩, .inl ⟨_, rfl, _, rfl, _, _, rfl, rfl, hw0, ?_⟩⟩
        have p1 : 0 ≤ (m * 30671 + 59) % 2147483647 := Int.emod_nonneg _ (by decide)
        have p2 : (m * 30671 + 59) % 2147483647 < 2147483647 := Int.emod_lt_of_pos _ (by decide)
        refine k _ _ (Int.emod_nonneg _ (by omega)) (Int.emod_lt_of_pos _ hw0) ⟨_, [], upd_same, ?_, ⟨p1, p2⟩, a4, a5⟩ (k2'.trans fun b o eb hd _ => by rw [upd_ne hd]; exact eb)
        rw [upd_ne (ne_of a2' a1' (by intro z; cases z))]
        exact a2'
      · rw [List.concat_eq_append] at ey
        subst ey
        have e1 : decide (l ++ [y] = []) = false := decide_eq_false (by simp)
        rw [e1]
        refine iteT ?_
        have ea : (l ++ [y]).map V.int = l.map V.int ++ [V.int y] := by rw [List.map_append]; rfl
        have hy : 0 ≤ y := a4 y (by simp)
        have ndg : d ≠ g := ne_of a1' a2' (by intro z; cases z)
        refine ⟨_, rfl, .inl ⟨rfl, _, SqL.of a2'⟩, g, _, .int y, rfl, rfl, a2', by rw [ea]; simp, ?_⟩
        have l5 : l.length ≤ 62 := by rw [List.length_append] at a5; have : [y].length = 1 := rfl; omega
        have el : (List.map V.int (l ++ [y])).dropLast = l.map V.int := by rw [ea, List.dropLast_concat]
        refine ⟨_, rfl, .inl ⟨rfl, _, SqL.of upd_same⟩, _, rfl, _, rfl, _, _, rfl, rfl, ⟨hw0, hw1⟩, g, _, .int (y / wd), rfl, rfl, upd_same, by rw [el, List.length_map]; exact small1000 (by omega), ?_⟩
        refine ⟨_, rfl, .inl ⟨_, rfl, _, rfl, _, _, rfl, rfl, hw0, ?_⟩⟩
        refine k _ _ (Int.emod_nonneg _ (by omega)) (Int.emod_lt_of_pos _ hw0) ⟨m, l ++ [y / wd], ?_, ?_, a3, fun n hn => ?_, by rw [List.length_append]; show l.length + 1 ≤ 63; omega⟩ (k2'.trans fun b o eb _ hg => by rw [upd_ne hg, upd_ne hg]; exact eb)
        · rw [upd_ne ndg, upd_ne ndg]
          exact a1'
        · rw [upd_same, el, List.map_append]
          rfl
        · rcases List.mem_append.mp hn with hn | hn
          · exact a4 n (List.mem_append_left _ hn)
          · rw [List.mem_singleton.mp hn]
            exact Int.ediv_nonneg hy (by omega)

/-! ### pick, mixed -/
def spPick : Sp := fun vs H Q _ => ∃ (d g l : Addr) (xs : List V), vs = [.ref d, .ref l] ∧ Deal d g H ∧ H l = some (.lst xs) ∧ l ≠ g ∧ 0 < xs.length ∧ xs.length ≤ 1000 ∧ ∀ (x : V) (H' : Hp), x ∈ xs → Deal d g H' → Kp d g H H' → Q x H'
theorem sc_pick : FnScope ["_law_deal", "_law_some"] ["_law_deal", "_law_some"] (defScope s_law_pick) := ⟨rfl, rfl, rfl, by decide +kernel, rfl, by decide +kernel, by decide +kernel⟩
/-- draw, as it is called -/
structure DrawOk (P : Program) (w : World) (K : PySem.W.Frag) (mg : Str → Option Value) (base : Heap) (f : Addr) (fd : FuncData) : Prop where
  g : FnOk P w K mg base CX0 1 f fd ["_law_deal", "_law_wide"] spDraw
  b : Binds K fd ["_law_deal", "_law_wide"] []
  m : mg "_law_draw" = some (.ref f)
  k : PySem.W.keepIn K (.ref f) = true
theorem Deal.nd {d g l : Addr} {H : Hp} {xs : List V} (D : Deal d g H) (h : H l = some (.lst xs)) : l ≠ d := by
  obtain ⟨_, _, a, _⟩ := D
  exact ne_of h a (by intro z; cases z)
theorem ok_pick {f fD : Addr} {fd dD : FuncData} (F : Fun K "_law_pick" "_law_pick" s_law_pick f fd) (B : Bn mg) (G : DrawOk P w K mg base fD dD) : FnOk P w K mg base CX0 2 f fd ["_law_deal", "_law_some"] spPick := by
  refine F.ok sc_pick (fun vs H Q E h => ?_) (fun cdv A outer s H vs Q E hr h => ?_)
  · obtain ⟨d, g, l, xs, rfl, _⟩ := h
    rfl
  · obtain ⟨d, g, l, xs, rfl, D, hl, hg, h0, h1, k⟩ := h
    refine ⟨_, pss_one (ps_ret (pe_ix ix_list (pv 1) (pe_call G.g hr (by rfl) G.m G.k G.b .nil pass0 (pa_cons (pv 0) (pa_cons (pe_callB call_len_seq (by rfl) B.len_ PySem.boot_len (pa_cons (pv 1) pa_nil)) pa_nil))) (fun _ _ => rfl))), ?_⟩
    refine ⟨_, rfl, _, rfl, _, rfl, l, xs, rfl, .inl (SqL.of hl), d, g, _, rfl, by omega, by omega, D, fun v H1 v0 v1 D1 k1 => ?_⟩
    have hl1 := k1 _ _ hl (D.nd hl) hg
    obtain ⟨j, rfl⟩ : ∃ j : Nat, v = (j : Int) := ⟨v.toNat, by omega⟩
    have hj : j < xs.length := by omega
    exact ⟨l, xs, _, xs[j], rfl, rfl, SqL.of hl1, atI_nat (List.getElem?_eq_getElem hj), k _ _ (List.getElem_mem hj) D1 k1⟩
def spMixed : Sp := fun vs H Q _ => ∃ (d g l : Addr) (xs : List V), vs = [.ref d, .ref l] ∧ Deal d g H ∧ H l = some (.lst xs) ∧ l ≠ g ∧ xs.length ≤ 1000 ∧
  ∀ (p : Addr) (ys : List V) (H' : Hp), ys.Perm xs → H' p = some (.lst ys) → H p = none → Deal d g H' → Kp d g H H' → Q (.ref p) H'
abbrev nMixed : List Str := ["_law_deal", "_law_some", "_law_others", "_law_found", "_law_turn"]
theorem sc_mixed : FnScope nMixed ["_law_deal", "_law_some"] (defScope s_law_mixed) := ⟨rfl, rfl, rfl, by decide +kernel, rfl, by decide +kernel, by decide +kernel⟩
theorem perm_move {α : Type} {a b : List α} {j : Nat} {y : α} (h : a[j]? = some y) : (a.eraseIdx j ++ (b ++ [y])).Perm (a ++ b) := by
  have hj : j < a.length := (List.getElem?_eq_some_iff.mp h).1
  have e : a = a.take j ++ y :: a.drop (j + 1) := by
    have := List.getElem_cons_drop hj
    have e2 : a[j] = y := (List.getElem?_eq_some_iff.mp h).2
    rw [e2] at this
    rw [this, List.take_append_drop]
  have e3 : a.eraseIdx j = a.take j ++ a.drop (j + 1) := List.eraseIdx_eq_take_drop_succ a j
  rw [e3]
  have p1 : (a.take j ++ a.drop (j + 1) ++ (b ++ [y])).Perm ([y] ++ (a.take j ++ a.drop (j + 1) ++ b)) := by
    rw [← List.append_assoc]
    exact List.perm_append_comm
  refine p1.trans ?_
  have p2 : (a ++ b).Perm ([y] ++ (a.take j ++ a.drop (j + 1) ++ b)) := by
    have : a ++ b = a.take j ++ (y :: (a.drop (j + 1) ++ b)) := by
      conv => lhs; rw [e]
      rw [List.append_assoc]; rfl
    rw [this, List.append_assoc]
    exact List.perm_middle
  exact p2.symm
theorem Deal.upd {d g a : Addr} {H : Hp} {o : HO} (D : Deal d g H) (h1 : a ≠ d) (h2 : a ≠ g) : Deal d g (L2.upd H a o) := by
  obtain ⟨m, ns, x, y, r⟩ := D
  exact ⟨m, ns, by rw [upd_ne h1.symm]; exact x, by rw [upd_ne h2.symm]; exact y, r⟩
theorem Kp.upd {d g a : Addr} {H H' : Hp} {o : HO} (k : Kp d g H H') (h : H a = none) : Kp d g H (L2.upd H' a o) := fun b u e h1 h2 => by rw [upd_ne (ne_of_none e h)]; exact k b u e h1 h2
theorem seq_ix {j n : Nat} (h : j < n) : seqIndex? (j : Int) n = some j := by
  have h1 : ¬ ((j : Int) < 0) := by omega
  unfold seqIndex?
  simp [h1, h]
theorem ok_mixed {f fD : Addr} {fd dD : FuncData} (F : Fun K "_law_mixed" "_law_mixed" s_law_mixed f fd) (B : Bn mg) (G : DrawOk P w K mg base fD dD) : FnOk P w K mg base CX0 2 f fd ["_law_deal", "_law_some"] spMixed := by
  refine F.ok sc_mixed (fun vs H Q E h => ?_) (fun cdv A outer s H vs Q E hr h => ?_)
  · obtain ⟨d, g, l, xs, rfl, _⟩ := h
    rfl
  · obtain ⟨d, g, l, xs, rfl, D, hl, hg, h1, k⟩ := h
    refine ⟨_, pss_cons (ps_par (i := 2) (j := 3) (by rfl) sc_mixed.nd rfl rfl (by decide) rfl rfl (pa_cons (pe_callTy call_list_of (by rfl) B.list_ (by decide +kernel) (pa_cons (pv 1) pa_nil)) (pa_cons (pe_lst pa_nil) pa_nil)) (by rfl))
      (pss_cons (ps_for PassesOwn.never rfl (pi_range1 rfl B.range_ (pa_cons (pe_callB call_len_seq (by rfl) B.len_ PySem.boot_len (pa_cons (pv 2) pa_nil)) pa_nil)) (pg_name (i := 4) sc_mixed.nd rfl (Or.inl rfl))
        (pss_one (ps_expr (pe_bm PySem.F.plainAttrs_list PySem.F.slot_list_append PySem.F.type_list_append mt_append (pv 3)
          (pa_cons (pe_bm PySem.F.plainAttrs_list PySem.F.slot_list_pop PySem.F.type_list_pop mt_popAt (pv 2) (pa_cons (pe_call G.g hr (by rfl) G.m G.k G.b .nil pass0 (pa_cons (pv 0) (pa_cons (pe_callB call_len_seq (by rfl) B.len_ PySem.boot_len (pa_cons (pv 2) pa_nil)) pa_nil))) pa_nil)) pa_nil)))))
      (pss_one (ps_ret (pv 3)))), ?_⟩
    refine ⟨_, rfl, l, xs, rfl, .inl (SqL.of hl), fun a ha => ⟨by show 0 ≤ sizeLine; decide, fun b hb => ⟨_, _, rfl, ?_⟩⟩⟩
    have s1 := same_new (o := .lst xs) ha
    have s2 := same_new (o := .lst []) hb
    have hA : upd (upd H a (.lst xs)) b (.lst []) a = some (.lst xs) := s2 _ _ upd_same
    refine ⟨_, rfl, a, xs, rfl, .inl (SqL.of hA), _, rfl, by omega, by omega, ?_⟩
    refine for_range (lo := 0) (n := xs.length) (fun i σ H2 => ∃ (v : Option V) (os fs : List V), σ = [some (.ref d), some (.ref l), some (.ref a), some (.ref b), v] ∧ H2 a = some (.lst os) ∧ H2 b = some (.lst fs) ∧ os.length = xs.length - i ∧ (os ++ fs).Perm xs ∧ Deal d g H2 ∧ Kp d g H H2 ∧ i ≤ xs.length)
      ⟨none, xs, [], rfl, hA, upd_same, by omega, by rw [List.append_nil], D.same (s1.trans s2), Kp.of (s1.trans s2), Nat.zero_le _⟩ ?_ ?_
    · rintro i σ H2 hi ⟨v, os, fs, rfl, ea, eb, hlen, hp, D2, k2, _⟩
      have hpl := hp.length_eq
      rw [List.length_append] at hpl
      refine ⟨_, rfl, .inl ⟨rfl, _, SqL.of eb⟩, _, rfl, .inl ⟨rfl, _, SqL.of ea⟩, _, rfl, _, rfl, a, os, rfl, .inl (SqL.of ea), d, g, _, rfl, by omega, by omega, D2, fun x H3 x0 x1 D3 k3 => ?_⟩
      have na : a ≠ g := fun z => by obtain ⟨_, _, _, q, _⟩ := D; rw [← z, ha] at q; cases q
      have nb : b ≠ g := fun z => by obtain ⟨_, _, _, q, _⟩ := D.same s1; rw [← z, hb] at q; cases q
      have ea3 := k3 _ _ ea (D2.nd ea) na
      have eb3 := k3 _ _ eb (D2.nd eb) nb
      have nab : a ≠ b := ne_of_none (H := upd H a (.lst xs)) upd_same hb
      obtain ⟨j, rfl⟩ : ∃ j : Nat, x = (j : Int) := ⟨x.toNat, by omega⟩
      have hj : j < os.length := by omega
      have hg1 : os[j]? = some os[j] := List.getElem?_eq_getElem hj
      refine ⟨a, os, _, j, os[j], rfl, rfl, ea3, by omega, by omega, ?_, hg1, b, fs, _, rfl, rfl, by rw [upd_ne nab.symm]; exact eb3, small1000 (by omega), ?_⟩
      · exact seq_ix hj
      · refine ⟨_, os.eraseIdx j, fs ++ [os[j]], rfl, by rw [upd_ne nab, upd_same], upd_same, ?_, (perm_move hg1).trans hp, ?_, ?_, hi⟩
        · rw [List.length_eraseIdx_of_lt hj]; omega
        · exact (D3.upd (D3.nd ea3) na).upd (D3.nd eb3) nb
        · exact ((k2.trans k3).upd ha).upd (Same.free s1 hb)
    · rintro σ H2 ⟨v, os, fs, rfl, ea, eb, hlen, hp, D2, k2, _⟩
      have e0 : os = [] := List.eq_nil_of_length_eq_zero (by omega)
      subst e0
      refine ⟨_, rfl, k b fs H2 hp eb ?_ D2 k2⟩
      exact Same.free s1 hb
end
end Ow
end
section
namespace Ow
open PySem L2 Own
section
variable {P : Program} {w : World} {K : PySem.W.Frag} {mg : Str → Option Value} {base : Heap} {c : Cs} {gs ge : Addr}
/-! ### row, rows, row_text -/
inductive So where
  | keep | tries | limit | leave | soft | count | lend
  deriving DecidableEq
def So.s : So → Str
  | .keep => "keep"
  | .tries => "tries"
  | .limit => "limit"
  | .leave => "leave"
  | .soft => "soft"
  | .count => "count"
  | .lend => "lend"
def R.so : R → So
  | .keep _ _ => .keep
  | .tries _ _ => .tries
  | .limit _ => .limit
  | .leave => .leave
  | .soft _ => .soft
  | .count => .count
  | .lend => .lend
/-- the tuple of a row -/
def tupOf : R → List V
  | .keep w l => [.str "keep", .str (wS w), lV l]
  | .tries n a => [.str "tries", .int n, .str (aS a)]
  | .limit n => [.str "limit", .int n]
  | .leave => [.str "leave"]
  | .soft a => [.str "soft", .str (aS a)]
  | .count => [.str "count"]
  | .lend => [.str "lend"]
structure PickOk (P : Program) (w : World) (K : PySem.W.Frag) (mg : Str → Option Value) (base : Heap) (f : Addr) (fd : FuncData) : Prop where
  g : FnOk P w K mg base CX0 2 f fd ["_law_deal", "_law_some"] spPick
  b : Binds K fd ["_law_deal", "_law_some"] []
  m : mg "_law_pick" = some (.ref f)
  k : PySem.W.keepIn K (.ref f) = true
def spRow : Sp := fun vs H Q _ => ∃ (d g : Addr) (k : So), vs = [.ref d, .str k.s] ∧ Deal d g H ∧ ∀ (t : Addr) (r : R) (H' : Hp), r.so = k → r.ok = true → H' t = some (.tup (tupOf r)) → H t = none → Deal d g H' → Kp d g H H' → Q (.ref t) H'
theorem sc_row : FnScope ["_law_deal", "_law_sort"] ["_law_deal", "_law_sort"] (defScope s_law_row) := ⟨rfl, rfl, rfl, by decide +kernel, rfl, by decide +kernel, by decide +kernel⟩
theorem so_eq (k j : So) : decide (V.str k.s = V.str j.s) = decide (k = j) := by
  have key : ∀ k ∈ [So.keep, .tries, .limit, .leave, .soft, .count, .lend], ∀ j ∈ [So.keep, .tries, .limit, .leave, .soft, .count, .lend], decide (V.str k.s = V.str j.s) = decide (k = j) := by decide +kernel
  have all : ∀ k : So, k ∈ [So.keep, .tries, .limit, .leave, .soft, .count, .lend] := by intro k; cases k <;> decide
  exact key k (all k) j (all j)
/-- pick from a list that was just made -/
theorem pick_new {d g l : Addr} {xs : List V} {H : Hp} {Q : VK} (D : Deal d g H) (hl : H l = none) (h0 : 0 < xs.length) (h1 : xs.length ≤ 1000) (k : ∀ (x : V) (H' : Hp), x ∈ xs → Deal d g H' → Kp d g H H' → Q x H') : spPick [.ref d, .ref l] (upd H l (.lst xs)) Q E0 := by
  have s := same_new (o := .lst xs) hl
  have ng : l ≠ g := fun z => by obtain ⟨_, _, _, q, _⟩ := D; rw [← z, hl] at q; cases q
  exact ⟨d, g, l, xs, rfl, D.same s, upd_same, ng, h0, h1, fun x H' hx D' k' => k x H' hx D' ((Kp.of s).trans k')⟩
theorem ok_row {f fP fD : Addr} {fd dP dD : FuncData} (F : Fun K "_law_row" "_law_row" s_law_row f fd) (G : PickOk P w K mg base fP dP) (GD : DrawOk P w K mg base fD dD) : FnOk P w K mg base CX0 3 f fd ["_law_deal", "_law_sort"] spRow := by
  refine F.ok sc_row (fun vs H Q E h => ?_) (fun cdv A outer s H vs Q E hr h => ?_)
  · obtain ⟨d, g, k, rfl, _⟩ := h
    rfl
  · obtain ⟨d, g, so, rfl, D, k⟩ := h
    have hr1 : Room 1 _ := hr.mono (by decide)
    refine ⟨_, pss_cons (ps_if (pt_cmpR op_eq (pv 1) pe_str (nomark _))
        (pss_one (ps_ret (pe_tup (pa_cons (pv 1) (pa_cons (pe_call G.g hr (by rfl) G.m G.k G.b .nil pass0 (pa_cons (pv 0) (pa_cons (pe_lst (pa_cons pe_str (pa_cons pe_str pa_nil))) pa_nil))) (pa_cons (pe_call G.g hr (by rfl) G.m G.k G.b .nil pass0 (pa_cons (pv 0) (pa_cons (pe_lst (pa_cons pe_non (pa_cons pe_non (pa_cons pe_int (pa_cons pe_int (pa_cons pe_int (pa_cons pe_int pa_nil))))))) pa_nil))) pa_nil)))))) pss_nil)
      (pss_cons (ps_if (pt_cmpR op_eq (pv 1) pe_str (nomark _))
        (pss_one (ps_ret (pe_tup (pa_cons (pv 1) (pa_cons (pe_op op_add pe_int (pe_call GD.g hr1 (by rfl) GD.m GD.k GD.b .nil pass0 (pa_cons (pv 0) (pa_cons pe_int pa_nil)))) (pa_cons (pe_call G.g hr (by rfl) G.m G.k G.b .nil pass0 (pa_cons (pv 0) (pa_cons (pe_lst (pa_cons pe_str (pa_cons pe_str pa_nil))) pa_nil))) pa_nil)))))) pss_nil)
      (pss_cons (ps_if (pt_cmpR op_eq (pv 1) pe_str (nomark _))
        (pss_one (ps_ret (pe_tup (pa_cons (pv 1) (pa_cons (pe_op op_add pe_int (pe_call GD.g hr1 (by rfl) GD.m GD.k GD.b .nil pass0 (pa_cons (pv 0) (pa_cons pe_int pa_nil)))) pa_nil))))) pss_nil)
      (pss_one (ps_ret (pe_ifExp (pt_cmpR op_eq (pv 1) pe_str (nomark _))
        (pe_tup (pa_cons (pv 1) (pa_cons (pe_call G.g hr (by rfl) G.m G.k G.b .nil pass0 (pa_cons (pv 0) (pa_cons (pe_lst (pa_cons pe_str (pa_cons pe_str pa_nil))) pa_nil))) pa_nil)))
        (pe_tup (pa_cons (pv 1) pa_nil))))))), ?_⟩
    have eK : decide (V.str so.s = V.str ("keep" : Str)) = decide (so = .keep) := so_eq so .keep
    have eT : decide (V.str so.s = V.str ("tries" : Str)) = decide (so = .tries) := so_eq so .tries
    have eL : decide (V.str so.s = V.str ("limit" : Str)) = decide (so = .limit) := so_eq so .limit
    have eS : decide (V.str so.s = V.str ("soft" : Str)) = decide (so = .soft) := so_eq so .soft
    have ends : ∀ {H1 : Hp} {t : Addr} {r : R}, r.so = so → r.ok = true → Deal d g H1 → Kp d g H H1 → H1 t = none → Q (.ref t) (upd H1 t (.tup (tupOf r))) := fun {H1 t r} e1 e2 D1 k1 ht =>
      k t r _ e1 e2 upd_same (D.free D1 k1 ht) (D1.same (same_new ht)) (k1.trans (Kp.of (same_new ht)))
    refine ⟨_, rfl, rfl, _, rfl, ?_⟩
    rw [eK]
    cases so with
    | keep =>
      refine iteT ?_
      refine ⟨_, rfl, _, rfl, by show 2 ≤ sizeLine; decide, fun l1 n1 => pick_new D n1 (by decide) (by decide) fun x1 H1 hx1 D1 k1 => ?_⟩
      refine ⟨_, rfl, by show 6 ≤ sizeLine; decide, fun l2 n2 => pick_new D1 n2 (by decide) (by decide) fun x2 H2 hx2 D2 k2 => ⟨by show 3 ≤ sizeLine; decide, fun t ht => ?_⟩⟩
      obtain ⟨wh, rfl⟩ : ∃ wh, x1 = .str (wS wh) := by
        simp at hx1
        rcases hx1 with rfl | rfl
        · exact ⟨false, rfl⟩
        · exact ⟨true, rfl⟩
      obtain ⟨lf, rfl, hlf⟩ : ∃ lf, x2 = lV lf ∧ (R.keep wh lf).ok = true := by
        simp at hx2
        rcases hx2 with rfl | rfl | rfl | rfl | rfl
        · exact ⟨none, rfl, rfl⟩
        · exact ⟨some 0, rfl, rfl⟩
        · exact ⟨some 1, rfl, rfl⟩
        · exact ⟨some 2, rfl, rfl⟩
        · exact ⟨some 3, rfl, rfl⟩
      exact ends (r := .keep wh lf) rfl hlf D2 (k1.trans k2) ht
    | tries =>
      refine iteF ⟨_, rfl, rfl, _, rfl, ?_⟩
      rw [eT]
      refine iteT ?_
      refine ⟨_, rfl, _, rfl, d, g, 3, rfl, by decide, by decide, D, fun v H1 v0 v1 D1 k1 => ?_⟩
      refine ⟨_, _, rfl, rfl, _, rfl, by show 2 ≤ sizeLine; decide, fun l2 n2 => pick_new D1 n2 (by decide) (by decide) fun x2 H2 hx2 D2 k2 => ⟨by show 3 ≤ sizeLine; decide, fun t ht => ?_⟩⟩
      obtain ⟨a, rfl⟩ : ∃ a, x2 = .str (aS a) := by
        simp at hx2
        rcases hx2 with rfl | rfl
        · exact ⟨false, rfl⟩
        · exact ⟨true, rfl⟩
      obtain ⟨n, en, n1, n3⟩ : ∃ n : Nat, 1 + v = (n : Int) ∧ 1 ≤ n ∧ n ≤ 3 := ⟨(1 + v).toNat, by omega, by omega, by omega⟩
      have hok : (R.tries n a).ok = true := decide_eq_true ⟨n1, n3⟩
      show Q (.ref t) (upd H2 t (.tup [.str "tries", .int (1 + v), .str (aS a)]))
      rw [en]
      exact ends (r := .tries n a) rfl hok D2 (k1.trans k2) ht
    | limit =>
      refine iteF ⟨_, rfl, rfl, _, rfl, ?_⟩
      rw [eT]
      refine iteF ⟨_, rfl, rfl, _, rfl, ?_⟩
      rw [eL]
      refine iteT ?_
      refine ⟨_, rfl, _, rfl, d, g, 4, rfl, by decide, by decide, D, fun v H1 v0 v1 D1 k1 => ?_⟩
      refine ⟨_, _, rfl, rfl, by show 2 ≤ sizeLine; decide, fun t ht => ?_⟩
      obtain ⟨n, en, n1, n3⟩ : ∃ n : Nat, 1 + v = (n : Int) ∧ 1 ≤ n ∧ n ≤ 6 := ⟨(1 + v).toNat, by omega, by omega, by omega⟩
      have hok : (R.limit n).ok = true := decide_eq_true ⟨n1, n3⟩
      show Q (.ref t) (upd H1 t (.tup [.str "limit", .int (1 + v)]))
      rw [en]
      exact ends (r := .limit n) rfl hok D1 k1 ht
    | soft =>
      refine iteF ⟨_, rfl, rfl, _, rfl, ?_⟩
      rw [eT]
      refine iteF ⟨_, rfl, rfl, _, rfl, ?_⟩
      rw [eL]
      refine iteF ⟨_, rfl, rfl, _, rfl, ?_⟩
      rw [eS]
      refine iteT ?_
      refine ⟨_, rfl, _, rfl, by show 2 ≤ sizeLine; decide, fun l2 n2 => pick_new D n2 (by decide) (by decide) fun x2 H2 hx2 D2 k2 => ⟨by show 2 ≤ sizeLine; decide, fun t ht => ?_⟩⟩
      obtain ⟨a, rfl⟩ : ∃ a, x2 = .str (aS a) := by
        simp at hx2
        rcases hx2 with rfl | rfl
        · exact ⟨false, rfl⟩
        · exact ⟨true, rfl⟩
      exact ends (r := .soft a) rfl rfl D2 k2 ht
    | leave =>
      refine iteF ⟨_, rfl, rfl, _, rfl, ?_⟩
      rw [eT]
      refine iteF ⟨_, rfl, rfl, _, rfl, ?_⟩
      rw [eL]
      refine iteF ⟨_, rfl, rfl, _, rfl, ?_⟩
      rw [eS]
      refine iteF ⟨_, rfl, by show 1 ≤ sizeLine; decide, fun t ht => ?_⟩
      exact ends (r := .leave) rfl rfl D (Kp.refl H) ht
    | count =>
      refine iteF ⟨_, rfl, rfl, _, rfl, ?_⟩
      rw [eT]
      refine iteF ⟨_, rfl, rfl, _, rfl, ?_⟩
      rw [eL]
      refine iteF ⟨_, rfl, rfl, _, rfl, ?_⟩
      rw [eS]
      refine iteF ⟨_, rfl, by show 1 ≤ sizeLine; decide, fun t ht => ?_⟩
      exact ends (r := .count) rfl rfl D (Kp.refl H) ht
    | lend =>
      refine iteF ⟨_, rfl, rfl, _, rfl, ?_⟩
      rw [eT]
      refine iteF ⟨_, rfl, rfl, _, rfl, ?_⟩
      rw [eL]
      refine iteF ⟨_, rfl, rfl, _, rfl, ?_⟩
      rw [eS]
      refine iteF ⟨_, rfl, by show 1 ≤ sizeLine; decide, fun t ht => ?_⟩
      exact ends (r := .lend) rfl rfl D (Kp.refl H) ht

structure MixedOk (P : Program) (w : World) (K : PySem.W.Frag) (mg : Str → Option Value) (base : Heap) (f : Addr) (fd : FuncData) : Prop where
  g : FnOk P w K mg base CX0 2 f fd ["_law_deal", "_law_some"] spMixed
  b : Binds K fd ["_law_deal", "_law_some"] []
  m : mg "_law_mixed" = some (.ref f)
  k : PySem.W.keepIn K (.ref f) = true
structure RowOk (P : Program) (w : World) (K : PySem.W.Frag) (mg : Str → Option Value) (base : Heap) (f : Addr) (fd : FuncData) : Prop where
  g : FnOk P w K mg base CX0 3 f fd ["_law_deal", "_law_sort"] spRow
  b : Binds K fd ["_law_deal", "_law_sort"] []
  m : mg "_law_row" = some (.ref f)
  k : PySem.W.keepIn K (.ref f) = true
/-- the tuple of the row r stands at t -/
def TupAt (H : Hp) (t : Addr) (r : R) : Prop := H t = some (.tup (tupOf r)) ∧ r.ok = true
def TupsAt (H : Hp) : List Addr → List R → Prop := Paired (TupAt H)
theorem TupAt.kp {d g : Addr} {H H' : Hp} {t : Addr} {r : R} (D : Deal d g H) (k : Kp d g H H') (h : TupAt H t r) : TupAt H' t r := by
  obtain ⟨m, ns, a, b, _⟩ := D
  exact ⟨k _ _ h.1 (ne_of h.1 a (by intro z; cases z)) (ne_of h.1 b (by intro z; cases z)), h.2⟩
theorem TupsAt.kp {d g : Addr} {H H' : Hp} {ts : List Addr} {rs : List R} (D : Deal d g H) (k : Kp d g H H') (h : TupsAt H ts rs) : TupsAt H' ts rs := Paired.mapP h fun _ _ => TupAt.kp D k
theorem TupsAt.same {H H' : Hp} {ts : List Addr} {rs : List R} (s : Same H H') (h : TupsAt H ts rs) : TupsAt H' ts rs := Paired.mapP h fun _ _ x => ⟨s _ _ x.1, x.2⟩
theorem TupsAt.upd {H : Hp} {ts : List Addr} {rs : List R} {D : Addr} {xs : List V} {o : HO} (hD : H D = some (.lst xs)) (h : TupsAt H ts rs) : TupsAt (L2.upd H D o) ts rs :=
  Paired.mapP h fun _ _ x => ⟨by rw [upd_ne (ne_of x.1 hD (by intro z; cases z))]; exact x.1, x.2⟩
theorem TupsAt.snoc {H : Hp} : ∀ {ps : List Addr} {rs : List R} {q : Addr} {r : R}, TupsAt H ps rs → TupAt H q r → TupsAt H (ps ++ [q]) (rs ++ [r])
  | _, _, _, _, .nil, h => .cons h .nil
  | _, _, _, _, .cons a t, h => .cons a (TupsAt.snoc t h)
def spRows : Sp := fun vs H Q _ => ∃ (d g : Addr) (n : Nat), vs = [.ref d, .int n] ∧ n ≤ 12 ∧ Deal d g H ∧
  ∀ (l : Addr) (ts : List Addr) (rs : List R) (H' : Hp), H' l = some (.lst (ts.map V.ref)) → TupsAt H' ts rs → rs.length = n → H l = none → Deal d g H' → Kp d g H H' → Q (.ref l) H'
abbrev nRows : List Str := ["_law_deal", "_law_amount", "_law_sorts", "_law_sort"]
theorem sc_rows : FnScope nRows ["_law_deal", "_law_amount"] (defScope s_law_rows) := ⟨rfl, rfl, rfl, by decide +kernel, rfl, by decide +kernel, by decide +kernel⟩
def sortsL : List So := [.keep, .tries, .limit, .leave, .soft, .count, .lend, .keep, .tries, .soft, .count, .leave]
theorem cut_none {xs : List V} {n : Nat} : cutV xs none (some (n : Int)) = xs.take n := by
  unfold cutV
  rw [HT.sIx_none, HT.sIx_nat, List.drop_zero, Nat.sub_zero]
  by_cases h : n ≤ xs.length
  · rw [Nat.min_eq_left h]
  · rw [Nat.min_eq_right (by omega), List.take_length, List.take_of_length_le (by omega)]
theorem ok_rows {f fM fR : Addr} {fd dM dR : FuncData} (F : Fun K "_law_rows" "_law_rows" s_law_rows f fd) (GM : MixedOk P w K mg base fM dM) (GR : RowOk P w K mg base fR dR) : FnOk P w K mg base CX0 4 f fd ["_law_deal", "_law_amount"] spRows := by
  refine F.ok sc_rows (fun vs H Q E h => ?_) (fun cdv A outer s H vs Q E hr h => ?_)
  · obtain ⟨d, g, n, rfl, _⟩ := h
    rfl
  · obtain ⟨d, g, n, rfl, hn, D, k⟩ := h
    have hr2 : Room 2 _ := hr.mono (by decide)
    refine ⟨_, pss_cons (ps_set (i := 2) sc_rows.nd rfl (Or.inl rfl) (pe_lst (pa_cons pe_str (pa_cons pe_str (pa_cons pe_str (pa_cons pe_str (pa_cons pe_str (pa_cons pe_str (pa_cons pe_str (pa_cons pe_str (pa_cons pe_str (pa_cons pe_str (pa_cons pe_str (pa_cons pe_str pa_nil))))))))))))))
      (pss_one (ps_ret (pe_lc (own := [("_law_sort", 3)]) (g := gName 3) (tt := tYes) rfl sc_rows.nd (pi_list (pe_slice sl_list (pe_call GM.g hr2 (by rfl) GM.m GM.k GM.b .nil pass0 (pa_cons (pv 0) (pa_cons (pv 2) pa_nil))) po_none (po_some (pv 1))))
        (blkOk_by (N := nRows) (sc := defScope s_law_rows) (by decide +kernel)) (fun _ _ _ _ _ => pg_name (i := 3) sc_rows.nd rfl (Or.inl rfl)) (fun _ _ _ _ _ => pts_nil)
        (fun _ _ _ _ _ => pe_call GR.g hr (by rfl) GR.m GR.k GR.b .nil pass0 (pa_cons (pv 0) (pa_cons (pv 3) pa_nil)))))), ?_⟩
    refine ⟨by show 12 ≤ sizeLine; decide, fun a ha => ?_⟩
    have s1 := same_new (o := .lst (sortsL.map fun k => V.str k.s)) ha
    have D1 := D.same s1
    have na : a ≠ g := fun z => by obtain ⟨_, _, _, q, _⟩ := D; rw [← z, ha] at q; cases q
    refine ⟨_, rfl, _, rfl, d, g, a, sortsL.map (fun k => V.str k.s), rfl, D1, upd_same, na, by decide, fun p ys H2 hp hys np D2 k2 => ?_⟩
    have hlen : ys.length = 12 := hp.length_eq
    refine ⟨_, rfl, _, rfl, p, ys, rfl, SqL.of hys, fun q hq => ?_⟩
    rw [cut_none]
    have s2 := same_new (o := .lst (ys.take n)) hq
    refine ⟨q, rfl, ⟨_, SqL.of upd_same⟩, fun C hC => ?_⟩
    have hCq : C ≠ q := fun z => by rw [z, upd_same] at hC; cases hC
    have D3 := D2.same s2
    have nC0 : H C = none := by
      have e1 := Same.free s2 hC
      exact Same.free s1 (D1.free D2 k2 e1)
    have nq0 : H q = none := Same.free s1 (D1.free D2 k2 hq)
    have nqg : q ≠ g := fun z => by obtain ⟨_, _, _, x, _⟩ := D; rw [← z, nq0] at x; cases x
    have nqd : q ≠ d := fun z => by obtain ⟨_, _, x, _⟩ := D; rw [← z, nq0] at x; cases x
    have nCg : C ≠ g := fun z => by obtain ⟨_, _, _, x, _⟩ := D; rw [← z, nC0] at x; cases x
    have nCd : C ≠ d := fun z => by obtain ⟨_, _, x, _⟩ := D; rw [← z, nC0] at x; cases x
    refine lc_list (K := K) (a := q) (xs := ys.take n) (fun i H3 => ∃ (ts : List Addr) (rs : List R), H3 C = some (.lst (ts.map V.ref)) ∧ TupsAt H3 ts rs ∧ rs.length = i ∧ Deal d g H3 ∧ Kp d g H H3 ∧ H3 q = some (.lst (ys.take n)))
      ⟨[], [], upd_same, .nil, rfl, D3.upd nCd nCg, ((Kp.of s1).trans (k2.trans (Kp.of s2))).upd nC0, by rw [upd_ne hCq.symm]; exact upd_same⟩ (fun i H3 _ ⟨_, _, _, _, _, _, _, z⟩ => SqL.of z) ?_ ?_
    · rintro i x H3 hx ⟨ts, rs, eC, hT, hl, D3', k3, eq3⟩
      have hi : i < n := by
        have h9 := (List.getElem?_eq_some_iff.mp hx).1
        rw [List.length_take] at h9; omega
      obtain ⟨so, rfl⟩ : ∃ so : So, x = .str so.s := by
        have h8 : x ∈ ys := List.mem_of_mem_take (List.mem_of_getElem? hx)
        have h7 := hp.mem_iff.mp h8
        obtain ⟨so, _, e⟩ := List.mem_map.mp h7
        exact ⟨so, e.symm⟩
      refine ⟨by rfl, _, rfl, _, rfl, d, g, so, rfl, D3', fun t r H4 _ rok et nt D4 k4 => ?_⟩
      have eC4 := k4 _ _ eC nCd nCg
      refine ⟨_, eC4, by rw [List.length_map, Paired.length hT, hl]; exact small1000 (by omega), ts ++ [t], rs ++ [r], by rw [upd_same, List.map_append]; rfl, ?_, by rw [List.length_append, hl]; rfl, D4.upd nCd nCg, (k3.trans k4).upd nC0, ?_⟩
      · exact ((hT.kp D3' k4).snoc ⟨et, rok⟩).upd eC4
      · rw [upd_ne hCq.symm]
        exact k4 _ _ eq3 nqd nqg
    · rintro H3 ⟨ts, rs, eC, hT, hl, D3', k3, _⟩
      refine k C ts rs H3 eC hT ?_ nC0 D3' k3
      rw [hl, List.length_take, hlen]
      omega
end
end Ow
end
section
namespace Ow
open PySem L2 Own
section
variable {P : Program} {w : World} {K : PySem.W.Frag} {mg : Str → Option Value} {base : Heap} {c : Cs} {gs ge : Addr}
theorem call_str_none {X : Cx} : CallR X (.type "str") (fun xs H Q => xs = [.non] ∧ Q (.str "None") H) := by
  intro pins s σ H xs us Q I r h
  obtain ⟨rfl, q⟩ := h
  obtain ⟨u, rfl, ru⟩ := r.one
  cases (show u = Value.none from ru)
  exact PySem.P.str_of_none ⟨.str _, H, I.tok _, ⟨_, rfl⟩, q⟩
def partV : V → V
  | .str x => .str x
  | .int i => .str (Str.ofString (toString i))
  | _ => .str "None"
def spRowText : Sp := fun vs H Q _ => ∃ (t : Addr) (r : R), vs = [.ref t] ∧ TupAt H t r ∧ ∀ H', Same H H' → Q (.str r.text) H'
abbrev nRT : List Str := ["_law_row_here", "_law_words", "_law_part"]
theorem sc_row_text : FnScope nRT ["_law_row_here"] (defScope s_law_row_text) := ⟨rfl, rfl, rfl, by decide +kernel, rfl, by decide +kernel, by decide +kernel⟩
theorem part_kinds {r : R} (hok : r.ok = true) : ∀ x ∈ tupOf r, (∃ y, x = .str y) ∨ (∃ n : Nat, x = .int n ∧ n ≤ 6) ∨ x = .non := by
  cases r with
  | keep w l =>
    cases l with
    | none => intro x hx; simp [tupOf, lV] at hx; rcases hx with rfl | rfl | rfl <;> simp
    | some n =>
      have h : n ≤ 3 := of_decide_eq_true hok
      intro x hx; simp [tupOf, lV] at hx
      rcases hx with rfl | rfl | rfl
      · exact .inl ⟨_, rfl⟩
      · exact .inl ⟨_, rfl⟩
      · exact .inr (.inl ⟨n, rfl, by omega⟩)
  | tries n a =>
    have h : 1 ≤ n ∧ n ≤ 3 := of_decide_eq_true hok
    intro x hx; simp [tupOf] at hx
    rcases hx with rfl | rfl | rfl
    · exact .inl ⟨_, rfl⟩
    · exact .inr (.inl ⟨n, rfl, by omega⟩)
    · exact .inl ⟨_, rfl⟩
  | limit n =>
    have h : 1 ≤ n ∧ n ≤ 6 := of_decide_eq_true hok
    intro x hx; simp [tupOf] at hx
    rcases hx with rfl | rfl
    · exact .inl ⟨_, rfl⟩
    · exact .inr (.inl ⟨n, rfl, h.2⟩)
  | leave => intro x hx; simp [tupOf] at hx; exact .inl ⟨_, hx⟩
  | soft a =>
    intro x hx; simp [tupOf] at hx
    rcases hx with rfl | rfl <;> exact .inl ⟨_, rfl⟩
  | count => intro x hx; simp [tupOf] at hx; exact .inl ⟨_, hx⟩
  | lend => intro x hx; simp [tupOf] at hx; exact .inl ⟨_, hx⟩
/-- its last part is None: just a keep for ever -/
theorem tup_last (r : R) : ∃ x, atI (tupOf r) (-1) = some x ∧ ((∃ w, r = .keep w none) ∧ x = .non ∨ (decide (x = .non) = false ∧ (tupOf r).map partV = r.words.map V.str)) := by
  cases r with
  | keep w l =>
    cases l with
    | none => exact ⟨.non, rfl, .inl ⟨⟨w, rfl⟩, rfl⟩⟩
    | some n => exact ⟨.int n, rfl, .inr ⟨rfl, rfl⟩⟩
  | tries n a => exact ⟨.str (aS a), rfl, .inr ⟨rfl, rfl⟩⟩
  | limit n => exact ⟨.int n, rfl, .inr ⟨rfl, rfl⟩⟩
  | leave => exact ⟨_, rfl, .inr ⟨rfl, rfl⟩⟩
  | soft a => exact ⟨.str (aS a), rfl, .inr ⟨rfl, rfl⟩⟩
  | count => exact ⟨_, rfl, .inr ⟨rfl, rfl⟩⟩
  | lend => exact ⟨_, rfl, .inr ⟨rfl, rfl⟩⟩
theorem ok_row_text {f : Addr} {fd : FuncData} (F : Fun K "_law_row_text" "_law_row_text" s_law_row_text f fd) (B : Bn mg) : FnOk P w K mg base CX0 1 f fd ["_law_row_here"] spRowText := by
  refine F.ok sc_row_text (fun vs H Q E h => ?_) (fun cdv A outer s H vs Q E hr h => ?_)
  · obtain ⟨t, r, rfl, _⟩ := h
    rfl
  · obtain ⟨t, r, rfl, ⟨ht, hok⟩, k⟩ := h
    refine ⟨_, pss_cons (ps_setLc (i := 1) (own := [("_law_part", 2)]) (g := gName 2) (tt := tYes) rfl sc_row_text.nd rfl rfl (sw_true rfl rfl rfl (by decide +kernel)) (pi_tup (pv 0))
        (blkOk_by (N := nRT) (sc := defScope s_law_row_text) (by decide +kernel)) (fun _ _ _ _ _ => pg_name (i := 2) sc_row_text.nd rfl (Or.inl rfl)) (fun _ _ _ _ _ => pts_nil)
        (fun _ _ _ _ _ => pe_callTy (CallR.or SkE.call_str_str (CallR.or call_str_int call_str_none)) (by rfl) B.str_ (by decide +kernel) (pa_cons (pv 2) pa_nil)))
      (pss_one (ps_ret (pe_ifExp (pt_cmp (pc_isN (pe_ix ix_tup (pv 0) (pe_un un_neg pe_int) (fun _ _ => rfl))))
        (pe_join pe_str (pe_op op_cat (pe_slice sl_list (pv 1) po_none (po_some (pe_un un_neg pe_int))) (pe_lst (pa_cons pe_str pa_nil))))
        (pe_join pe_str (pv 1))))), ?_⟩
    refine ⟨_, rfl, t, rfl, ⟨_, SqT.of ht⟩, fun D hD => ?_⟩
    have hlen : (tupOf r).length ≤ 3 := by cases r <;> simp [tupOf]
    refine lc_tup (K := K) (a := t) (xs := tupOf r) (fun i H2 => H2 D = some (.lst (((tupOf r).take i).map partV)) ∧ Same H H2) ⟨upd_same, same_new hD⟩ (fun i H2 _ z => SqT.of (z.2 _ _ ht)) ?_ ?_
    · rintro i x H2 hx ⟨eD, s2⟩
      have hm : x ∈ tupOf r := List.mem_of_getElem? hx
      have fin : ∃ acc, H2 D = some (.lst acc) ∧ acc.length < sizeLine ∧ (upd H2 D (.lst (acc ++ [partV x]))) D = some (.lst (((tupOf r).take (i + 1)).map partV)) ∧ Same H (upd H2 D (.lst (acc ++ [partV x]))) := by
        refine ⟨_, eD, ?_, ?_, same_upd s2 hD⟩
        · rw [List.length_map, List.length_take]; exact small1000 (by omega)
        · rw [upd_same, take_next hx, List.map_append]; rfl
      rcases part_kinds hok x hm with ⟨y, rfl⟩ | ⟨n, rfl, hn⟩ | rfl
      · exact ⟨by rfl, _, rfl, .inl ⟨y, rfl, fin⟩⟩
      · exact ⟨by rfl, _, rfl, .inr (.inl ⟨_, rfl, log_small hn, fin⟩)⟩
      · exact ⟨by rfl, _, rfl, .inr (.inr ⟨rfl, fin⟩)⟩
    · rintro H2 ⟨eD, s2⟩
      rw [List.take_length] at eD
      obtain ⟨x, hx, h⟩ := tup_last r
      refine ⟨_, rfl, _, rfl, t, _, _, x, rfl, rfl, SqT.of (s2 _ _ ht), hx, _, rfl, ?_⟩
      rcases h with ⟨⟨wh, rfl⟩, rfl⟩ | ⟨e1, e2⟩
      · refine iteT ?_
        refine ⟨⟨_, rfl⟩, _, rfl, _, rfl, _, rfl, D, _, rfl, SqL.of eD, fun p hp => ?_⟩
        refine ⟨by show 1 ≤ sizeLine; decide, fun q hq => ?_⟩
        have s3 := same_new (o := .lst (cutV ((tupOf (.keep wh none)).map partV) none (some (-1)))) hp
        have s4 := same_new (o := .lst [V.str "ever"]) hq
        refine ⟨p, q, _, _, rfl, rfl, s4 _ _ upd_same, upd_same, by show 2 + 1 ≤ sizeLine; decide, fun u hu => ?_⟩
        refine ⟨_, u, R.words (.keep wh none), rfl, rfl, .inl (SqL.of upd_same), (text_small hok).1, ?_⟩
        exact k _ (((s2.trans s3).trans s4).trans (same_new hu))
      · rw [e1]
        refine iteF ?_
        refine ⟨⟨_, rfl⟩, _, rfl, _, D, r.words, rfl, rfl, .inl (SqL.of (by rw [← e2]; exact eD)), (text_small hok).1, ?_⟩
        exact k _ s2

/-! ### source -/
theorem cut_ints (ns : List Int) (lo hi : Option Int) : ∃ ms : List Int, cutV (ns.map V.int) lo hi = ms.map V.int ∧ ms.length ≤ ns.length := by
  refine ⟨(ns.drop (HT.sIx ns.length 0 lo)).take (HT.sIx ns.length ns.length hi - HT.sIx ns.length 0 lo), ?_, ?_⟩
  · unfold cutV
    rw [List.length_map, List.map_take, List.map_drop]
  · rw [List.length_take, List.length_drop]; omega
def absI (n : Int) : Int := if n < 0 then -n else n
theorem absI_nn (n : Int) : 0 ≤ absI n := by unfold absI; split <;> omega
theorem merge_dl (g : Addr) (m : Int) : mergeK [] (dl g m) = dl g m := by
  have h1 : ¬ ((Sum.inr ("great" : Str) : Key) = Sum.inr ("mixed" : Str)) := by intro z; exact kGM (Sum.inr.inj z)
  unfold dl mergeK
  simp [putK, h1]
theorem int_at {ns : List Int} {i : Nat} {x : V} (h : (ns.map V.int)[i]? = some x) : ∃ z, ns[i]? = some z ∧ x = V.int z := by
  rw [List.getElem?_map] at h
  cases e : ns[i]? with
  | none => rw [e] at h; cases h
  | some z => rw [e] at h; exact ⟨z, rfl, (Option.some.inj h).symm⟩
def spSource (K : PySem.W.Frag) : Sp := fun vs H Q _ => ∃ (a : Addr) (ns : List Int) (b : Nat), vs = [.ref a, .int b] ∧ SqL K H a (ns.map V.int) ∧ ns.length ≤ 63 ∧ b ≤ 2 ∧ ∀ (d g : Addr) (H' : Hp), Same H H' → H d = none → H g = none → Deal d g H' → Q (.ref d) H'
abbrev nSource : List Str := ["_law_script", "_law_base", "_law_cells", "_law_mixed_here", "_law_cell"]
theorem sc_source : FnScope nSource ["_law_script", "_law_base"] (defScope s_law_source) := ⟨rfl, rfl, rfl, by decide +kernel, rfl, by decide +kernel, by decide +kernel⟩
theorem ok_source {f : Addr} {fd : FuncData} (F : Fun K "_law_source" "_law_source" s_law_source f fd) (B : Bn mg) : FnOk P w K mg base CX0 1 f fd ["_law_script", "_law_base"] (spSource K) := by
  refine F.ok sc_source (fun vs H Q E h => ?_) (fun cdv A outer s H vs Q E hr h => ?_)
  · obtain ⟨a, ns, b, rfl, _⟩ := h
    rfl
  · obtain ⟨a, ns, b, rfl, hS, hl, hb, k⟩ := h
    refine ⟨_, pss_cons (ps_setLc (i := 2) (own := [("_law_cell", 4)]) (g := gName 4) (tt := tYes) rfl sc_source.nd rfl rfl (sw_true rfl rfl rfl (by decide +kernel)) (pi_list (pe_slice sl_list (pv 0) (po_some (pv 1)) (po_some pe_int)))
        (blkOk_by (N := nSource) (sc := defScope s_law_source) (by decide +kernel)) (fun _ _ _ _ _ => pg_name (i := 4) sc_source.nd rfl (Or.inl rfl)) (fun _ _ _ _ _ => pts_nil)
        (fun _ _ _ _ _ => pe_callB call_abs (by rfl) B.abs_ (by decide +kernel) (pa_cons (pe_callTy call_int1 (by rfl) B.int_ (by decide +kernel) (pa_cons (pv 4) pa_nil)) pa_nil)))
      (pss_cons (ps_set (i := 3) sc_source.nd rfl (Or.inl rfl) (pe_op op_add pe_int (pe_op op_mul pe_int (pv 1))))
      (pss_cons (ps_for PassesOwn.never rfl (pi_list (pv 2)) (pg_name (i := 4) sc_source.nd rfl (Or.inl rfl))
        (pss_one (ps_set (i := 3) sc_source.nd rfl (Or.inl rfl) (pe_op op_mod (pe_callTy call_int1 (by rfl) B.int_ (by decide +kernel) (pa_cons (pe_op op_add (pe_op op_add (pe_op op_mul (pv 3) pe_int) (pe_op op_mod (pe_callTy call_int1 (by rfl) B.int_ (by decide +kernel) (pa_cons (pv 4) pa_nil)) pe_int)) pe_int) pa_nil)) pe_int))))
      (pss_one (ps_ret (pe_disp (pps_cons pe_str (pe_revL (pe_lc (own := [("_law_cell", 4)]) (g := gName 4) (tt := tTest (tOp (rI0 fun i j => .bl (decide (j ≤ i))) (tVar 4) (tOp (rI CPow fun i j => .int (i ^ j.toNat)) (tC (.int 10)) (tC (.int 18))))) rfl sc_source.nd (pi_list (pv 2))
        (blkOk_by (N := nSource) (sc := defScope s_law_source) (by decide +kernel)) (fun _ _ _ _ _ => pg_name (i := 4) sc_source.nd rfl (Or.inl rfl)) (fun _ _ _ _ _ => pts_one (pt_cmpR op_ge (pv 4) (pe_op op_pow pe_int pe_int) (nomark _)))
        (fun _ _ _ _ _ => pv 4))) (pps_cons pe_str (pv 3) pps_nil)) (by rfl) (by rfl) (fun z => by cases z) (by decide)))))), ?_⟩
    obtain ⟨ms, ems, lms⟩ := cut_ints ns (some (b : Int)) (some 62)
    refine ⟨_, rfl, _, rfl, _, rfl, _, rfl, a, _, rfl, hS, fun p hp => ?_⟩
    rw [ems]
    have s1 := same_new (o := .lst (ms.map V.int)) hp
    refine ⟨p, rfl, ⟨_, SqL.of upd_same⟩, fun D hD => ?_⟩
    have hDp : p ≠ D := fun z => by rw [← z, upd_same] at hD; cases hD
    refine lc_list (K := K) (a := p) (xs := ms.map V.int) (fun i H2 => H2 D = some (.lst (((ms.take i).map absI).map V.int)) ∧ Same (upd H p (.lst (ms.map V.int))) H2) ⟨upd_same, same_new hD⟩ (fun i H2 _ z => SqL.of (z.2 _ _ upd_same)) ?_ ?_
    · rintro i x H2 hx ⟨eD, s2⟩
      obtain ⟨z, hz, rfl⟩ := int_at hx
      refine ⟨by rfl, _, rfl, .inl ⟨_, rfl, _, rfl, _, eD, ?_, ?_, same_upd s2 hD⟩⟩
      · rw [List.length_map, List.length_map, List.length_take]; exact small1000 (by omega)
      · rw [upd_same, take_next hz, List.map_append, List.map_append]; rfl
    · rintro H2 ⟨eD, s2⟩
      rw [List.length_map, List.take_length] at eD
      refine ⟨_, rfl, _, _, rfl, rfl, .inl ⟨by decide, by decide⟩, _, _, rfl, rfl, ?_⟩
      refine ⟨_, rfl, D, rfl, ⟨_, SqL.of eD⟩, ?_⟩
      refine for_list (K := K) (a := D) (xs := (ms.map absI).map V.int) (fun i σ H3 => ∃ (m : Int) (v : Option V), σ = [some (.ref a), some (.int b), some (.ref D), some (.int m), v] ∧ 0 ≤ m ∧ m < 2147483647 ∧ H3 = H2)
        ⟨_, none, rfl, by omega, by omega, rfl⟩ (fun i σ H3 _ ⟨_, _, _, _, _, e⟩ => by rw [e]; exact SqL.of eD) ?_ ?_
      · rintro i x σ H3 hx ⟨m, v, rfl, m0, m1, rfl⟩
        obtain ⟨z, hz, rfl⟩ := int_at hx
        refine ⟨_, rfl, _, _, rfl, rfl, .inl ⟨by omega, by omega⟩, _, rfl, .inl ⟨_, rfl, _, _, rfl, rfl, by show (0 : Int) < 2147483423; decide, _, _, rfl, rfl, _, _, rfl, rfl, .inl ⟨_, rfl, _, _, rfl, rfl, by show (0 : Int) < 2147483647; decide, ?_⟩⟩⟩
        exact ⟨_, _, rfl, Int.emod_nonneg _ (by decide), Int.emod_lt_of_pos _ (by decide), rfl⟩
      · rintro σ H3 ⟨m, v, rfl, m0, m1, rfl⟩
        intro d hd
        have s3 := same_new (o := .dK []) hd
        have eD3 := s3 _ _ eD
        refine ⟨_, rfl, D, rfl, ⟨_, SqL.of eD3⟩, fun C hC => ?_⟩
        refine lc_list (K := K) (a := D) (xs := (ms.map absI).map V.int) (fun i H4 => ∃ gs : List Int, H4 C = some (.lst (gs.map V.int)) ∧ (∀ n ∈ gs, 0 ≤ n) ∧ gs.length ≤ i ∧ Same (upd H3 d (.dK [])) H4) ⟨[], upd_same, (fun n hn => by cases hn), Nat.le_refl _, same_new hC⟩ (fun i H4 _ ⟨_, _, _, _, z⟩ => SqL.of (z _ _ eD3)) ?_ ?_
        · rintro i x H4 hx ⟨gs, eC, g0, gl, s4⟩
          obtain ⟨z, hz, rfl⟩ := int_at hx
          have hz0 : 0 ≤ z := by
            obtain ⟨y, _, rfl⟩ := List.mem_map.mp (List.mem_of_getElem? hz)
            exact absI_nn y
          have hi : i < ms.length := by have h9 := (List.getElem?_eq_some_iff.mp hz).1; rw [List.length_map] at h9; exact h9
          refine ⟨by rfl, _, rfl, _, _, rfl, rfl, ⟨by decide, by decide, by decide⟩, _, _, rfl, rfl, _, rfl, ?_⟩
          refine ite2 (fun _ => ?_) (fun _ => ?_)
          · refine ⟨_, rfl, _, eC, by rw [List.length_map]; exact small1000 (by omega), gs ++ [z], by rw [upd_same, List.map_append]; rfl, ?_, by rw [List.length_append]; show gs.length + 1 ≤ i + 1; omega, same_upd s4 hC⟩
            intro n hn
            rcases List.mem_append.mp hn with hn | hn
            · exact g0 n hn
            · rw [List.mem_singleton.mp hn]; exact hz0
          · exact ⟨gs, eC, g0, by omega, s4⟩
        · rintro H4 ⟨gs, eC, g0, gl, s4⟩
          rw [List.length_map, List.length_map] at gl
          refine ⟨C, _, rfl, SqL.of eC, fun g hg => ?_⟩
          have s5 := same_new (o := .lst (gs.map V.int).reverse) hg
          have ed5 := s5 _ _ (s4 _ _ upd_same)
          refine ⟨_, rfl, ed5, dl g m, rfl, by show 2 ≤ 15; decide, ?_⟩
          rw [merge_dl]
          have sA : Same H H3 := s1.trans s2
          have nd : H d = none := Same.free sA hd
          have ng : H g = none := Same.free sA (Same.free s3 (Same.free s4 hg))
          refine k d g _ (same_upd (((sA.trans s3).trans s4).trans s5) nd) nd ng ⟨m, gs.reverse, upd_same, ?_, ⟨m0, m1⟩, fun n hn => g0 n (List.mem_reverse.mp hn), by rw [List.length_reverse]; omega⟩
          rw [upd_ne (fun z => by rw [z, s4 _ _ upd_same] at hg; cases hg), upd_same, List.map_reverse]
end
end Ow
end
section
namespace Ow
open PySem L2 Own
/-! ### stacks -/
section
variable {P : Program} {w : World} {K : PySem.W.Frag} {mg : Str → Option Value} {base : Heap} {c : Cs} {gs ge : Addr} {S gsS geS glS : Addr}
structure TxtS (K : PySem.W.Frag) (mg : Str → Option Value) (S gsS geS glS : Addr) : Prop where
  own : OwnC K S gsS geS
  nR : NoAttr K S "rows"
  isS : PySem.W.kitOne K (.ref S) (.ref S) = some true
  nf : PySem.W.notFirst K S (.ref S) = true
  ln : PySem.W.findIn K (.ref S) "__len__" = some (some (.ref glS))
  lnf : PySem.W.isFn K (.ref glS) = true
  mStack : mg "Stack" = some (.ref S)
  isi : mg "isinstance" = none
  str_ : mg "str" = none
  tuple_ : mg "tuple" = none
  list_ : mg "list" = none
  enum_ : mg "enumerate" = none
  len_ : mg "len" = none
def fStack (a : Addr) : List (Str × V) := putF "rows" (.ref a) []
theorem fStack_rows (a : Addr) : (fStack a).lookup ("rows" : Str) = some (.ref a) := by unfold fStack; rw [lookup_putF, if_pos rfl]
/-- a stack with the rows rs stands at p -/
def StackAt (K : PySem.W.Frag) (c : Cs) (S : Addr) (H : Hp) (p : Addr) (rs : List R) : Prop :=
  ∃ (dx a : Addr) (ps : List Addr), H p = some (.ins S dx (fStack a)) ∧ SqT K H a (ps.map V.ref) ∧ RowsAt c H ps rs ∧ (∀ r ∈ rs, r.ok = true) ∧ rs.length ≤ 100
theorem StackAt.same {H H' : Hp} {p : Addr} {rs : List R} (s : Same H H') (h : StackAt K c S H p rs) : StackAt K c S H' p rs :=
  let ⟨dx, a, ps, e, q, r, o, l⟩ := h; ⟨dx, a, ps, s _ _ e, SqT.sm q s, r.same s, o, l⟩
/-! is_sequence -/
def spIsSeq (K : PySem.W.Frag) : Sp := fun vs H Q _ => ∃ (a : Addr) (xs : List V), vs = [.ref a] ∧ SqS K H a xs ∧ ∀ H', Same H H' → Q (.bl true) H'
theorem sc_isseq : FnScope ["value"] ["value"] (defScope s_is_sequence) := ⟨rfl, rfl, rfl, by decide +kernel, rfl, by decide +kernel, by decide +kernel⟩
theorem any_list : PySem.W.kitAny K (.type "list") [.type "list", .type "tuple"] = some true := kitAny_cons (b := true) (kit_ty (by decide +kernel)) (fun z => nomatch z) fun _ => rfl
theorem any_tup : PySem.W.kitAny K (.type "tuple") [.type "list", .type "tuple"] = some true :=
  kitAny_cons (b := false) (kit_ty (by decide +kernel)) (fun _ => kitAny_cons (b := true) (kit_ty (by decide +kernel)) (fun z => nomatch z) fun _ => rfl) fun z => nomatch z
theorem ok_is_sequence {f : Addr} {fd : FuncData} (F : Fun K "is_sequence" "is_sequence" s_is_sequence f fd) (T : TxtS K mg S gsS geS glS) : FnOk P w K mg base CX0 1 f fd ["value"] (spIsSeq K) := by
  refine F.ok sc_isseq (fun vs H Q E h => ?_) (fun cdv A outer s H vs Q E hr h => ?_)
  · obtain ⟨a, xs, rfl, _⟩ := h
    rfl
  · obtain ⟨a, xs, rfl, hq, k⟩ := h
    refine ⟨_, pss_one (ps_ret (pe_callB call_isiT (by rfl) T.isi (by decide +kernel) (pa_cons (pv 0) (pa_cons (pe_tup (pa_cons (pe_bltn (by rfl) T.list_ (by decide +kernel) (v := .ty "list") rfl) (pa_cons (pe_bltn (by rfl) T.tuple_ (by decide +kernel) (v := .ty "tuple") rfl) pa_nil))) pa_nil)))), ?_⟩
    refine ⟨_, rfl, by show 2 ≤ sizeLine; decide, fun t ht => ?_⟩
    have sm : Same H (upd H t (.tup [.ty "list", .ty "tuple"])) := same_new ht
    have go : ∀ T : String, TyX K (upd H t (.tup [.ty "list", .ty "tuple"])) (.ref a) (.type T) → PySem.W.kitAny K (.type T) [.type "list", .type "tuple"] = some true → rIsiT K [.ref a, .ref t] (upd H t (.tup [.ty "list", .ty "tuple"])) Q := fun T ty hk =>
      ⟨_, t, _, _, _, true, rfl, upd_same, .cons (.ty _) (.cons (.ty _) .nil), ty, hk, k _ sm⟩
    rcases hq.sm sm with q | q
    · exact go _ (tyL q) any_list
    · exact go _ (tyT q) any_tup
/-! rows_of -/
def spRowsOf (K : PySem.W.Frag) (c : Cs) : Sp := fun vs H Q _ => ∃ (a : Addr) (ps : List Addr) (rs : List R), vs = [.ref a] ∧ SqS K H a (ps.map V.ref) ∧ RowsAt c H ps rs ∧ ∀ t H', Same H H' → SqT K H' t (ps.map V.ref) → Q (.ref t) H'
abbrev nRowsOf : List Str := ["value", "at", "row"]
theorem sc_rowsof : FnScope nRowsOf ["value"] (defScope s_rows_of) := ⟨rfl, rfl, rfl, by decide +kernel, rfl, by decide +kernel, by decide +kernel⟩
theorem ref_at {ps : List Addr} {i : Nat} {x : V} (h : (ps.map V.ref)[i]? = some x) : ∃ p, ps[i]? = some p ∧ x = V.ref p := by
  rw [List.getElem?_map] at h
  cases e : ps[i]? with
  | none => rw [e] at h; cases h
  | some p => rw [e] at h; exact ⟨p, rfl, (Option.some.inj h).symm⟩
theorem ok_rows_of {f fI : Addr} {fd dI : FuncData} (F : Fun K "rows_of" "rows_of" s_rows_of f fd) (T : Txt' K mg c gs ge) (TS : TxtS K mg S gsS geS glS) (FI : Fun K "is_sequence" "is_sequence" s_is_sequence fI dI) (bI : Binds K dI ["value"] []) (mI : mg "is_sequence" = some (.ref fI)) :
    FnOk P w K mg base CX0 2 f fd ["value"] (spRowsOf K c) := by
  have GI : FnOk P w K mg base CX0 1 fI dI ["value"] (spIsSeq K) := ok_is_sequence FI TS
  refine F.ok sc_rowsof (fun vs H Q E h => ?_) (fun cdv A outer s H vs Q E hr h => ?_)
  · obtain ⟨a, ps, rs, rfl, _⟩ := h
    rfl
  · obtain ⟨a, ps, rs, rfl, hq, hR, k⟩ := h
    refine ⟨_, pss_cons (ps_if (pt_not (pt_val (pe_call GI hr (by rfl) mI FI.kp bI .nil pass0 (pa_cons (pv 0) pa_nil)))) pss_never pss_nil)
      (pss_cons (ps_for PassesOwn.never rfl (pi_enumS (by rfl) TS.enum_ (pa_cons (pv 0) pa_nil)) (pg_tup rfl (pgs_cons (pg_name (i := 1) sc_rowsof.nd rfl (Or.inl rfl)) (pgs_cons (pg_name (i := 2) sc_rowsof.nd rfl (Or.inl rfl)) pgs_nil)))
        (pss_one (ps_if (pt_not (pt_val (pe_callB call_isi (by rfl) TS.isi (by decide +kernel) (pa_cons (pv 2) (pa_cons (pe_glob (v := .ref c.row) (by rfl) T.mRow rfl) pa_nil))))) pss_never pss_nil)))
      (pss_one (ps_ret (pe_tupleOf (by rfl) TS.tuple_ (pv 0))))), ?_⟩
    refine ⟨_, rfl, a, _, rfl, hq, fun H1 s1 => ⟨true, rfl, iteF ?_⟩⟩
    have fin : ∀ H2, Same H1 H2 → ∀ x y : Option V, tRet (tThen (tVar 0) (kTup K)) { nx := fun _ H' => Q .non H', rt := Q } [some (.ref a), x, y] H2 := fun H2 s2 x y => by
      refine ⟨_, rfl, ?_⟩
      rcases hq.sm (s1.trans s2) with q | q
      · exact .inl ⟨a, _, rfl, q, fun t ht => k t _ ((s1.trans s2).trans (same_new ht)) (SqT.of upd_same)⟩
      · exact .inr ⟨a, _, rfl, q, k a _ (s1.trans s2) q⟩
    refine ⟨_, rfl, a, ps.map V.ref, rfl, ?_⟩
    rcases hq.sm s1 with q | q
    · refine .inl ⟨q, for_enumL (K := K) (a := a) (xs := ps.map V.ref) (fun i τ G => (∃ x y, τ = [some (.ref a), x, y]) ∧ Same H1 G) ⟨⟨none, none, rfl⟩, Same.refl _⟩ (fun i τ G _ z => z.2.seq q) ?_ ?_⟩
      · rintro i x τ G U hx ⟨⟨x1, y1, rfl⟩, s2⟩ hU
        obtain ⟨p, hp, rfl⟩ := ref_at hx
        obtain ⟨r, hr', ⟨dx, ep⟩⟩ := pair_get hR hp
        have s3 : Same H1 (upd G U (.tup [.int (i : Nat), .ref p])) := s2.trans (same_new hU)
        refine ⟨U, _, rfl, SqT.of upd_same, rfl, _, _, rfl, _, _, rfl, rfl, ?_⟩
        refine ⟨_, rfl, _, _, _, _, true, rfl, .own _, (T.own r).ty ((s1.trans s3) _ _ ep), T.isR r, true, rfl, iteF ?_⟩
        exact ⟨⟨_, _, rfl⟩, s3⟩
      · rintro τ G ⟨⟨x, y, rfl⟩, s2⟩
        exact fin G s2 x y
    · refine .inr ⟨q, for_enumT (K := K) (a := a) (xs := ps.map V.ref) (fun i τ G => (∃ x y, τ = [some (.ref a), x, y]) ∧ Same H1 G) ⟨⟨none, none, rfl⟩, Same.refl _⟩ (fun i τ G _ z => SqT.sm q z.2) ?_ ?_⟩
      · rintro i x τ G U hx ⟨⟨x1, y1, rfl⟩, s2⟩ hU
        obtain ⟨p, hp, rfl⟩ := ref_at hx
        obtain ⟨r, hr', ⟨dx, ep⟩⟩ := pair_get hR hp
        have s3 : Same H1 (upd G U (.tup [.int (i : Nat), .ref p])) := s2.trans (same_new hU)
        refine ⟨U, _, rfl, SqT.of upd_same, rfl, _, _, rfl, _, _, rfl, rfl, ?_⟩
        refine ⟨_, rfl, _, _, _, _, true, rfl, .own _, (T.own r).ty ((s1.trans s3) _ _ ep), T.isR r, true, rfl, iteF ?_⟩
        exact ⟨⟨_, _, rfl⟩, s3⟩
      · rintro τ G ⟨⟨x, y, rfl⟩, s2⟩
        exact fin G s2 x y
end
end Ow
end
section
namespace Ow
open PySem L2 Own
section
variable {P : Program} {w : World} {K : PySem.W.Frag} {mg : Str → Option Value} {base : Heap} {c : Cs} {gs ge : Addr} {S gsS geS glS : Addr}
/-! ### rows_in -/
def rowTexts (rs : List R) : List Str := rs.map R.text
def spRowsIn (K : PySem.W.Frag) (c : Cs) : Sp := fun vs H Q _ => ∃ (l : Addr) (rs : List R), vs = [.ref l] ∧ SqL K H l ((rowTexts rs).map V.str) ∧ (∀ r ∈ rs, r.ok = true) ∧ rs.length ≤ 100 ∧
  ∀ (q : Addr) (ps : List Addr) (H' : Hp), Same H H' → H q = none → H' q = some (.lst (ps.map V.ref)) → RowsAt c H' ps rs → Q (.ref q) H'
abbrev nRowsIn : List Str := ["lines", "rows", "at", "line"]
theorem sc_rowsin : FnScope nRowsIn ["lines"] (defScope s_rows_in) := ⟨rfl, rfl, rfl, by decide +kernel, rfl, by decide +kernel, by decide +kernel⟩
theorem txt_at {rs : List R} {i : Nat} {x : V} (h : ((rowTexts rs).map V.str)[i]? = some x) : ∃ r, rs[i]? = some r ∧ x = V.str r.text := by
  unfold rowTexts at h
  rw [List.map_map, List.getElem?_map] at h
  cases e : rs[i]? with
  | none => rw [e] at h; cases h
  | some r => rw [e] at h; exact ⟨r, rfl, (Option.some.inj h).symm⟩
/-- Row.read, as it is called -/
structure ReadOk (P : Program) (w : World) (K : PySem.W.Frag) (mg : Str → Option Value) (base : Heap) (c : Cs) (pR fR : Addr) (dR : FuncData) (mc : Value) : Prop where
  g : FnOk P w K mg base CX0 6 fR dR ["cls", "text"] (spRead c)
  b : Binds K dR ["cls", "text"] []
  cr : ClX.CRead K c.row mc
  cm : ClX.CMet K c.row mc "read" pR fR
theorem ok_rows_in {f pR fR : Addr} {fd dR : FuncData} {mc : Value} (F : Fun K "rows_in" "rows_in" s_rows_in f fd) (T : Txt' K mg c gs ge) (TS : TxtS K mg S gsS geS glS) (GR : ReadOk P w K mg base c pR fR dR mc) : FnOk P w K mg base CX0 7 f fd ["lines"] (spRowsIn K c) := by
  have FR := GR.g.raw GR.b .nil
  refine F.ok sc_rowsin (fun vs H Q E h => ?_) (fun cdv A outer s H vs Q E hr h => ?_)
  · obtain ⟨l, rs, rfl, _⟩ := h
    rfl
  · obtain ⟨l, rs, rfl, hl, hok, hz, k⟩ := h
    refine ⟨_, pss_cons (ps_set (i := 1) sc_rowsin.nd rfl (Or.inl rfl) (pe_lst pa_nil))
      (pss_cons (ps_for PassesOwn.never rfl (pi_enum (by rfl) TS.enum_ (pa_cons (pv 0) pa_nil)) (pg_tup rfl (pgs_cons (pg_name (i := 2) sc_rowsin.nd rfl (Or.inl rfl)) (pgs_cons (pg_name (i := 3) sc_rowsin.nd rfl (Or.inl rfl)) pgs_nil)))
        (pss_one (ps_try_thru0 (pss_one (ps_expr (pe_bm PySem.F.plainAttrs_list PySem.F.slot_list_append PySem.F.type_list_append mt_append (pv 1)
          (pa_cons (ClX.pe_cmeth (pe_glob (v := .ref c.row) (by rfl) T.mRow rfl) GR.cr GR.cm FR hr pass0 (pa_cons (pv 3) pa_nil)) pa_nil)))))))
      (pss_one (ps_ret (pv 1)))), ?_⟩
    refine ⟨by show 0 ≤ sizeLine; decide, fun D hD => ?_⟩
    have nl : l ≠ D ∨ True := .inr trivial
    have s0 : Same H (upd H D (.lst [])) := same_new hD
    refine ⟨_, rfl, l, _, rfl, s0.seq hl, ?_⟩
    refine for_enumL (K := K) (a := l) (xs := (rowTexts rs).map V.str) (fun i τ G => (∃ x y, τ = [some (.ref l), some (.ref D), x, y]) ∧ Fill c H D (rs.take i) G) ⟨⟨none, none, rfl⟩, Fill.nil hD⟩ (fun i τ G _ z => ?_) ?_ ?_
    · obtain ⟨_, ps, _, _, s⟩ := z
      exact s.seq hl
    · rintro i x τ G U hx ⟨⟨x1, y1, rfl⟩, FG⟩ hU
      obtain ⟨r, hr', rfl⟩ := txt_at hx
      have rok : r.ok = true := hok r (List.mem_of_getElem? hr')
      have s1 : Same G (upd G U (.tup [.int (i : Nat), .str r.text])) := same_new hU
      have FG1 := FG.same s1
      refine ⟨U, _, rfl, SqT.of upd_same, rfl, _, _, rfl, _, _, rfl, rfl, ?_⟩
      obtain ⟨ps, eD, hRows, sH⟩ := id FG1
      refine ⟨_, rfl, .inl ⟨rfl, _, SqL.of eD⟩, rfl, _, rfl, _, r, rfl, rok, fun p H3 s3 hp => ?_⟩
      obtain ⟨acc, e1, e2, e3⟩ := FG1.step hD s3 hp (by rw [List.length_take]; omega)
      refine ⟨D, acc, .ref p, rfl, rfl, e1, e2, ⟨_, _, rfl⟩, ?_⟩
      rw [take_next hr']
      exact e3
    · rintro τ G ⟨⟨x, y, rfl⟩, FG⟩
      have el : ((rowTexts rs).map V.str).length = rs.length := by unfold rowTexts; rw [List.length_map, List.length_map]
      rw [el, List.take_length] at FG
      obtain ⟨ps, eD, hRows, sH⟩ := FG
      exact ⟨_, rfl, k D ps G sH hD eD hRows⟩
/-! ### Stack.__init__ -/
def spInitS (K : PySem.W.Frag) (c : Cs) (S : Addr) : Sp := fun vs H Q _ => ∃ (p dx a : Addr) (ps : List Addr) (rs : List R), vs = [.ref p, .ref a] ∧ H p = some (.ins S dx []) ∧ SqS K H a (ps.map V.ref) ∧ RowsAt c H ps rs ∧ (∀ r ∈ rs, r.ok = true) ∧ rs.length ≤ 100 ∧
  ∀ H' : Hp, StackAt K c S H' p rs → (∀ b o, H b = some o → b ≠ p → H' b = some o) → Q .non H'
theorem sc_initS : FnScope ["self", "rows"] ["self", "rows"] (defScope s_Stack_init) := ⟨rfl, rfl, rfl, by decide +kernel, rfl, by decide +kernel, by decide +kernel⟩
/-- a field set at p: what is no instance at p stays -/
theorem SqT.setF {H : Hp} {p C dx a : Addr} {fs fs' : List (Str × V)} {xs : List V} (hp : H p = some (.ins C dx fs)) (h : SqT K H a xs) : SqT K (upd H p (.ins C dx fs')) a xs := by
  rcases h with (h | ⟨o, h⟩) | h
  · exact .inl (.inl (by rw [upd_ne (ne_of h hp (by intro z; cases z))]; exact h))
  · exact .inl (.inr ⟨o, by rw [upd_ne (ne_of h hp (by intro z; cases z))]; exact h⟩)
  · exact .inr h
theorem RowsAt.keepBut {H H' : Hp} {p C dx : Addr} {fs : List (Str × V)} {ps : List Addr} {rs : List R} (hp : H p = some (.ins C dx fs)) (nc : ∀ r, c.of r ≠ C) (k : ∀ b o, H b = some o → b ≠ p → H' b = some o) (h : RowsAt c H ps rs) : RowsAt c H' ps rs :=
  Paired.mapP h fun q r ⟨dq, eq⟩ => ⟨dq, k _ _ eq fun z => by
    rw [z, hp] at eq
    cases eq
    exact nc r rfl⟩
theorem ok_initS {f fR : Addr} {fd dR : FuncData} {dvs : List V} (F : FunD K "__init__" "Stack.__init__" (defArgs s_Stack_init) (defBody s_Stack_init) (defScope s_Stack_init) dvs [] f fd) (TS : TxtS K mg S gsS geS glS) (nc : ∀ r, c.of r ≠ S)
    (GR : FnOk P w K mg base CX0 2 fR dR ["value"] (spRowsOf K c)) (bR : Binds K dR ["value"] []) (mR : mg "rows_of" = some (.ref fR)) (kR : PySem.W.keepIn K (.ref fR) = true) :
    FnOk P w K mg base CX0 3 f fd ["self", "rows"] (spInitS K c S) := by
  refine F.ok sc_initS (fun vs H Q E h => ?_) (fun cdv A outer s H vs Q E hr h => ?_)
  · obtain ⟨p, dx, a, ps, rs, rfl, _⟩ := h
    rfl
  · obtain ⟨p, dx, a, ps, rs, rfl, hp, hq, hR, hok, hz, k⟩ := h
    refine ⟨_, pss_one (ps_fld (pv 0) (pe_call GR hr (by rfl) mR kR bR .nil pass0 (pa_cons (pv 1) pa_nil)) rfl), ?_⟩
    refine ⟨_, rfl, a, ps, rs, rfl, hq, hR, fun t H1 s1 ht => ?_⟩
    have hp1 := s1 _ _ hp
    refine ⟨_, rfl, p, S, dx, _, rfl, hp1, TS.own.cl, TS.nR, by show 0 < 1000; decide, ?_⟩
    refine k _ ⟨dx, t, ps, upd_same, SqT.setF hp1 ht, (hR.same s1).keepBut hp1 nc (fun b o e hb => by rw [upd_ne hb]; exact e), hok, hz⟩ fun b o e hb => by rw [upd_ne hb]; exact s1 _ _ e
end
end Ow
end
section
namespace Ow
open PySem L2 Own
open TL
section
/-! ### the texts of stacks -/
def sText (rs : List R) : Str := Txt.join "\n" (rowTexts rs)
theorem joinL_len (s : Nat) : ∀ ts : List (List Nat), (joinL [s] ts).length ≤ (ts.map (·.length)).sum + ts.length
  | [] => Nat.le_refl _
  | [p] => by simp [joinL]
  | p :: q :: r => by
    have ih := joinL_len s (q :: r)
    show (p ++ ([s] ++ joinL [s] (q :: r))).length ≤ _
    rw [List.length_append, List.length_append, List.map_cons, List.sum_cons, List.length_cons, List.length_cons, List.length_nil]
    have e : (p :: q :: r).length = (q :: r).length + 1 := rfl
    omega
theorem nl_tl : tl "\n" = [10] := by decide +kernel
theorem sum_texts : ∀ rs : List R, (∀ r ∈ rs, r.ok = true) → ((rowTexts rs).map (·.length)).sum ≤ rs.length * 100
  | [], _ => Nat.le_refl _
  | r :: t, h => by
    have ih := sum_texts t fun q hq => h q (List.mem_cons_of_mem _ hq)
    have h1 := (text_small (h r (List.mem_cons_self ..))).2
    unfold rowTexts at ih ⊢
    rw [List.map_cons, List.map_cons, List.sum_cons, List.length_cons]
    omega
theorem rowTexts_len (rs : List R) : (rowTexts rs).length = rs.length := List.length_map ..
theorem sText_len {rs : List R} (h : ∀ r ∈ rs, r.ok = true) : (sText rs).length ≤ rs.length * 101 := by
  have h1 : (tl (sText rs)).length ≤ (((rowTexts rs).map tl).map (·.length)).sum + ((rowTexts rs).map tl).length := by
    unfold sText
    rw [join_eq, tl_join, nl_tl]
    exact joinL_len 10 _
  have h2 : ((rowTexts rs).map tl).map (·.length) = (rowTexts rs).map (·.length) := by
    rw [List.map_map]; rfl
  rw [h2, List.length_map, rowTexts_len] at h1
  have h3 := sum_texts rs h
  have h4 : (tl (sText rs)).length = (sText rs).length := rfl
  omega
theorem text_nl {r : R} (h : r.ok = true) : 10 ∉ tl r.text := by
  have key : ∀ r ∈ allRows, 10 ∉ tl r.text := by decide +kernel
  exact key r (mem_all h)
theorem text_ne {r : R} (h : r.ok = true) : tl r.text ≠ [] := by
  have key : ∀ r ∈ allRows, tl r.text ≠ [] := by decide +kernel
  exact key r (mem_all h)
theorem sText_split {rs : List R} (h : ∀ r ∈ rs, r.ok = true) (hn : rs ≠ []) : Txt.split (sText rs) "\n" = rowTexts rs := by
  refine split_join nl_tl (by decide +kernel) (fun e => hn (List.map_eq_nil_iff.mp e)) fun p hp => ?_
  obtain ⟨r, hr, rfl⟩ := List.mem_map.mp hp
  exact text_nl (h r hr)
theorem sText_nil {rs : List R} (h : ∀ r ∈ rs, r.ok = true) : sText rs = "" ↔ rs = [] := by
  constructor
  · intro e
    cases rs with
    | nil => rfl
    | cons r t =>
      have h1 := text_ne (h r (List.mem_cons_self ..))
      have h2 : tl (sText (r :: t)) = [] := by rw [e]; decide +kernel
      unfold sText at h2
      rw [join_eq, tl_join] at h2
      cases t with
      | nil => exact absurd h2 h1
      | cons q u =>
        have h3 : tl r.text ++ (tl "\n" ++ joinL (tl "\n") ((q :: u).map R.text |>.map tl)) = [] := h2
        exact absurd (List.append_eq_nil_iff.mp h3).1 h1
  · rintro rfl; rfl
theorem rowTexts_inj : ∀ {rs ss : List R}, (∀ r ∈ rs, r.ok = true) → (∀ r ∈ ss, r.ok = true) → rowTexts rs = rowTexts ss → rs = ss
  | [], [], _, _, _ => rfl
  | [], _ :: _, _, _, e => by cases e
  | _ :: _, [], _, _, e => by cases e
  | r :: t, s :: u, h1, h2, e => by
    unfold rowTexts at e
    rw [List.map_cons, List.map_cons] at e
    injection e with e1 e2
    rw [text_inj (h1 r (List.mem_cons_self ..)) (h2 s (List.mem_cons_self ..)) e1, rowTexts_inj (fun q hq => h1 q (List.mem_cons_of_mem _ hq)) (fun q hq => h2 q (List.mem_cons_of_mem _ hq)) e2]
theorem sText_inj {rs ss : List R} (h1 : ∀ r ∈ rs, r.ok = true) (h2 : ∀ r ∈ ss, r.ok = true) (e : sText rs = sText ss) : rs = ss := by
  by_cases hr : rs = []
  · rw [hr]
    exact ((sText_nil h2).mp (by rw [← e]; exact (sText_nil h1).mpr hr)).symm
  · by_cases hs : ss = []
    · exact absurd ((sText_nil h1).mp (by rw [e]; exact (sText_nil h2).mpr hs)) hr
    · exact rowTexts_inj h1 h2 (by rw [← sText_split h1 hr, ← sText_split h2 hs, e])
theorem sText_eq {rs ss : List R} (h1 : ∀ r ∈ rs, r.ok = true) (h2 : ∀ r ∈ ss, r.ok = true) : decide (V.str (sText rs) = V.str (sText ss)) = decide (rs = ss) := by
  by_cases e : rs = ss
  · rw [e, decide_eq_true rfl, decide_eq_true rfl]
  · rw [decide_eq_false e]
    exact decide_eq_false fun z => e (sText_inj h1 h2 (V.str.inj z))
end
section
variable {P : Program} {w : World} {K : PySem.W.Frag} {mg : Str → Option Value} {base : Heap} {c : Cs} {gs ge : Addr} {S gsS geS glS : Addr}
/-! ### __str__, __eq__, __len__ -/
def spStrS (K : PySem.W.Frag) (c : Cs) (S : Addr) : Sp := fun vs H Q _ => ∃ (p : Addr) (rs : List R), vs = [.ref p] ∧ StackAt K c S H p rs ∧ ∀ H', Same H H' → Q (.str (sText rs)) H'
theorem sc_strS : FnScope ["self", "row"] ["self"] (defScope s_Stack_str) := ⟨rfl, rfl, rfl, by decide +kernel, rfl, by decide +kernel, by decide +kernel⟩
theorem ok_strS {f : Addr} {fd ds : FuncData} (F : Fun K "__str__" "Stack.__str__" s_Stack_str f fd) (T : Txt' K mg c gs ge) (TS : TxtS K mg S gsS geS glS) (GS : FnOk P w K mg base CX0 2 gs ds ["self"] (spStr c)) (bS : Binds K ds ["self"] []) : FnOk P w K mg base CX0 5 f fd ["self"] (spStrS K c S) := by
  have RS := GS.raw bS .nil
  refine F.ok sc_strS (fun vs H Q E h => ?_) (fun cdv A outer s H vs Q E hr h => ?_)
  · obtain ⟨p, rs, rfl, _⟩ := h
    rfl
  · obtain ⟨p, rs, rfl, ⟨dx, a, ps, hp, hq, hR, hok, hz⟩, k⟩ := h
    refine ⟨_, pss_one (ps_ret (pe_join pe_str (pe_lc (own := [("row", 1)]) (g := gName 1) (tt := tYes) rfl sc_strS.nd (pi_tup (pe_fld (pv 0) rfl))
        (blkOk_by (N := ["self", "row"]) (sc := defScope s_Stack_str) (by decide +kernel)) (fun _ _ _ _ _ => pg_name (i := 1) sc_strS.nd rfl (Or.inl rfl)) (fun _ _ _ _ _ => pts_nil)
        (fun _ _ _ _ _ => pe_callTy (T := "str") (r := rStrOwn K gs (fun vs H Q E => spStr c (vs ++ []) H Q E) E0) (call_strOwn RS hr pass0) (by rfl) TS.str_ (by decide +kernel) (pa_cons (pv 1) pa_nil))))), ?_⟩
    refine ⟨⟨_, rfl⟩, _, rfl, p, S, dx, _, _, rfl, hp, TS.own.cl, TS.nR, fStack_rows a, a, rfl, ⟨_, hq⟩, fun D hD => ?_⟩
    have hlen := hR.len
    refine lc_tup (K := K) (a := a) (xs := ps.map V.ref) (fun i H2 => H2 D = some (.lst ((rowTexts (rs.take i)).map V.str)) ∧ Same H H2) ⟨upd_same, same_new hD⟩ (fun i H2 _ z => SqT.sm hq z.2) ?_ ?_
    · rintro i x H2 hx ⟨eD, s2⟩
      obtain ⟨q, hq', rfl⟩ := ref_at hx
      obtain ⟨r, hr', ⟨dq, eq⟩⟩ := pair_get hR hq'
      have rok : r.ok = true := hok r (List.mem_of_getElem? hr')
      refine ⟨by rfl, _, rfl, q, c.of r, dq, _, ge, rfl, s2 _ _ eq, T.own r, q, r, rfl, rok, ⟨dq, s2 _ _ eq⟩, fun H3 s3 => ⟨_, rfl, ?_⟩⟩
      refine ⟨_, s3 _ _ eD, ?_, ?_, same_upd (s2.trans s3) hD⟩
      · rw [List.length_map, rowTexts_len, List.length_take]; exact small1000 (by omega)
      · rw [upd_same, take_next hr']
        unfold rowTexts
        rw [List.map_append, List.map_append]
        rfl
    · rintro H2 ⟨eD, s2⟩
      rw [List.length_map, hlen, List.take_length] at eD
      refine ⟨_, D, rowTexts rs, rfl, rfl, .inl (SqL.of eD), ?_, k _ s2⟩
      have h3 := sum_texts rs hok
      have h4 : Str.length "\n" = 1 := by decide +kernel
      rw [rowTexts_len, h4]
      omega
def spEqS (K : PySem.W.Frag) (c : Cs) (S : Addr) : Sp := fun vs H Q _ => ∃ (p : Addr) (rs : List R) (y : V), vs = [.ref p, y] ∧ StackAt K c S H p rs ∧
  ((∃ q ss, y = .ref q ∧ StackAt K c S H q ss ∧ ∀ H', Same H H' → Q (.bl (decide (rs = ss))) H') ∨ ((∃ t, TyX K H y t ∧ PySem.W.kitOne K t (.ref S) = some false) ∧ Q (.bl false) H))
theorem sc_eqS : FnScope ["self", "other"] ["self", "other"] (defScope s_Stack_eq) := ⟨rfl, rfl, rfl, by decide +kernel, rfl, by decide +kernel, by decide +kernel⟩
theorem ok_eqS {f : Addr} {fd ds : FuncData} (F : Fun K "__eq__" "Stack.__eq__" s_Stack_eq f fd) (TS : TxtS K mg S gsS geS glS) (GS : FnOk P w K mg base CX0 5 gsS ds ["self"] (spStrS K c S)) (bS : Binds K ds ["self"] []) : FnOk P w K mg base CX0 8 f fd ["self", "other"] (spEqS K c S) := by
  have RS := GS.raw bS .nil
  refine F.ok sc_eqS (fun vs H Q E h => ?_) (fun cdv A outer s H vs Q E hr h => ?_)
  · obtain ⟨p, rs, y, rfl, _⟩ := h
    rfl
  · obtain ⟨p, rs, y, rfl, hS, h⟩ := h
    obtain ⟨dx, a, ps, hp, _, _, hok, _⟩ := id hS
    refine ⟨_, pss_one (ps_ret (pe_and (pe_callB call_isi (by rfl) TS.isi (by decide +kernel) (pa_cons (pv 1) (pa_cons (pe_glob (v := .ref S) (by rfl) TS.mStack rfl) pa_nil)))
      (pe_one (pe_cmpR op_eq (pe_callTy (call_strOwn RS hr pass0) (by rfl) TS.str_ (by decide +kernel) (pa_cons (pv 0) pa_nil)) (pe_callTy (call_strOwn RS hr pass0) (by rfl) TS.str_ (by decide +kernel) (pa_cons (pv 1) pa_nil)) (nomark _))))), ?_⟩
    rcases h with ⟨q, ss, rfl, hS2, k⟩ | ⟨⟨t, ty, hk⟩, k⟩
    · obtain ⟨dy, b, qs, hq, _, _, sok, _⟩ := id hS2
      refine ⟨_, rfl, _, _, _, _, true, rfl, .own _, TS.own.ty hq, TS.isS, true, rfl, iteT ?_⟩
      refine ⟨_, rfl, p, S, dx, _, geS, rfl, hp, TS.own, p, rs, rfl, hS, fun H1 s1 => ⟨_, rfl, ?_⟩⟩
      refine ⟨_, rfl, q, S, dy, _, geS, rfl, s1 _ _ hq, TS.own, q, ss, rfl, hS2.same s1, fun H2 s2 => ⟨_, rfl, rfl, ?_⟩⟩
      show Q (.bl (decide (V.str (sText rs) = V.str (sText ss)))) H2
      rw [sText_eq hok sok]
      exact k _ (s1.trans s2)
    · exact ⟨_, rfl, _, _, _, _, false, rfl, .own _, ty, hk, false, rfl, iteF k⟩
def spLenS (K : PySem.W.Frag) (c : Cs) (S : Addr) : Sp := fun vs H Q _ => ∃ (p : Addr) (rs : List R), vs = [.ref p] ∧ StackAt K c S H p rs ∧ Q (.int rs.length) H
theorem sc_lenS : FnScope ["self"] ["self"] (defScope s_Stack_len) := ⟨rfl, rfl, rfl, by decide +kernel, rfl, by decide +kernel, by decide +kernel⟩
theorem ok_lenS {f : Addr} {fd : FuncData} (F : Fun K "__len__" "Stack.__len__" s_Stack_len f fd) (TS : TxtS K mg S gsS geS glS) : FnOk P w K mg base CX0 1 f fd ["self"] (spLenS K c S) := by
  refine F.ok sc_lenS (fun vs H Q E h => ?_) (fun cdv A outer s H vs Q E hr h => ?_)
  · obtain ⟨p, rs, rfl, _⟩ := h
    rfl
  · obtain ⟨p, rs, rfl, ⟨dx, a, ps, hp, hq, hR, hok, hz⟩, k⟩ := h
    refine ⟨_, pss_one (ps_ret (pe_callB call_len_seq (by rfl) TS.len_ PySem.boot_len (pa_cons (pe_fld (pv 0) rfl) pa_nil))), ?_⟩
    refine ⟨_, rfl, p, S, dx, _, _, rfl, hp, TS.own.cl, TS.nR, fStack_rows a, a, _, rfl, .inr hq, ?_⟩
    show Q (.int ((ps.map V.ref).length : Nat)) H
    rw [List.length_map, hR.len]
    exact k
/-! ### Stack.read -/
def spReadS (K : PySem.W.Frag) (c : Cs) (S : Addr) : Sp := fun vs H Q _ => ∃ rs : List R, vs = [.ref S, .str (sText rs)] ∧ (∀ r ∈ rs, r.ok = true) ∧ rs.length ≤ 100 ∧ ∀ (p : Addr) (H' : Hp), Same H H' → H p = none → StackAt K c S H' p rs → Q (.ref p) H'
theorem sc_readS : FnScope ["cls", "text"] ["cls", "text"] (defScope s_Stack_read) := ⟨rfl, rfl, rfl, by decide +kernel, rfl, by decide +kernel, by decide +kernel⟩
/-- Stack(..), as it is called -/
structure MakeS (P : Program) (w : World) (K : PySem.W.Frag) (mg : Str → Option Value) (base : Heap) (c : Cs) (S fI d0 : Addr) (dI : FuncData) : Prop where
  mkr : Mk K S fI
  g : FnOk P w K mg base CX0 3 fI dI ["self", "rows"] (spInitS K c S)
  b : Binds K dI ["self", "rows"] []
  b0 : Binds K dI ["self", "rows"] [.ref d0]
  k0 : KTup K d0 []
theorem made_stack {H : Hp} {a : Addr} {ps : List Addr} {rs : List R} {Q : VK} (hq : SqS K H a (ps.map V.ref)) (hR : RowsAt c H ps rs) (hok : ∀ r ∈ rs, r.ok = true) (hz : rs.length ≤ 100)
    (k : ∀ (p : Addr) (H' : Hp), Same H H' → H p = none → StackAt K c S H' p rs → Q (.ref p) H') :
    ∀ x dx, H x = none → H dx = none → dx ≠ x → spInitS K c S [.ref x, .ref a] (upd (upd H dx (.own x)) x (.ins S dx [])) (fun v H2 => v = .non ∧ Q (.ref x) H2) E0 := by
  intro x dx nx nd ne
  have s1 : Same H (upd (upd H dx (.own x)) x (.ins S dx [])) := same_upd (same_new nd) nx
  exact ⟨x, dx, a, ps, rs, rfl, upd_same, hq.sm s1, hR.same s1, hok, hz, fun H' h' k' => ⟨rfl, k _ _ (made_same nx nd k') nx h'⟩⟩
theorem ok_readS {f fI d0 fN : Addr} {fd dI dN : FuncData} (F : Fun K "read" "Stack.read" s_Stack_read f fd) (M : MakeS P w K mg base c S fI d0 dI) (GN : FnOk P w K mg base CX0 7 fN dN ["lines"] (spRowsIn K c)) (bN : Binds K dN ["lines"] []) (mN : mg "rows_in" = some (.ref fN)) (kN : PySem.W.keepIn K (.ref fN) = true) :
    FnOk P w K mg base CX0 8 f fd ["cls", "text"] (spReadS K c S) := by
  refine F.ok sc_readS (fun vs H Q E h => ?_) (fun cdv A outer s H vs Q E hr h => ?_)
  · obtain ⟨rs, rfl, _⟩ := h
    rfl
  · obtain ⟨rs, rfl, hok, hz, k⟩ := h
    have hr4 := hr.mono (show 3 + 1 ≤ 7 by decide)
    refine ⟨_, pss_cons (ps_if (pt_cmpR op_eq (pv 1) pe_str (nomark _)) (pss_one (ps_ret (pe_makeL0 (i := 0) M.mkr M.g hr4 rfl (Or.inl rfl) M.b0 (.cons (show RelV (.ref d0) (.ref d0) from rfl) .nil) pass0))) pss_nil)
      (pss_one (ps_ret (pe_makeL (i := 0) M.mkr M.g hr4 rfl (Or.inl rfl) M.b .nil pass0 (pa_cons (pe_call GN hr (by rfl) mN kN bN .nil pass0 (pa_cons (pe_split (pv 1) pe_str) pa_nil)) pa_nil)))), ?_⟩
    refine ⟨_, rfl, rfl, _, rfl, ?_⟩
    by_cases e : rs = []
    · subst e
      have e1 : decide (V.str (sText []) = V.str "") = true := by rfl
      rw [e1]
      refine iteT ⟨rfl, ?_⟩
      exact made_stack (c := c) (S := S) (ps := []) (rs := []) (.inr (M.k0 H)) .nil (fun r h => nomatch h) (Nat.zero_le _) k
    · have e1 : decide (V.str (sText rs) = V.str "") = false := decide_eq_false fun z => e ((sText_nil hok).mp (V.str.inj z))
      rw [e1]
      refine iteF ?_
      refine ⟨rfl, ?_⟩
      have hl := sText_len hok
      refine ⟨_, rfl, ⟨_, rfl⟩, _, _, rfl, rfl, by decide +kernel, ?_, fun l hl' => ?_⟩
      · rw [sizeLine_eq]; omega
      · rw [sText_split hok e]
        have s0 : Same H (upd H l (.lst ((rowTexts rs).map V.str))) := same_new hl'
        refine ⟨l, rs, rfl, SqL.of upd_same, hok, hz, fun q ps H1 s1 nq eq hR => ?_⟩
        exact made_stack (c := c) (S := S) (.inl (SqL.of eq)) hR hok hz fun p H' s' np hS => k p H' ((s0.trans s1).trans s') (Same.free (s0.trans s1) np) hS
end
end Ow
end
section
namespace Ow
open PySem L2 Own
section
variable {P : Program} {w : World} {K : PySem.W.Frag} {mg : Str → Option Value} {base : Heap} {c : Cs} {gs ge : Addr} {S gsS geS glS : Addr}
/-! ### parts of tuples -/
theorem whole_cut {xs : List V} {lo hi : Option Int} (h : HT.sIx xs.length 0 lo = 0 ∧ HT.sIx xs.length xs.length hi = xs.length) : cutV xs lo hi = xs := by
  unfold cutV
  rw [h.1, h.2, List.drop_zero, Nat.sub_zero, List.take_length]
theorem slA_go {a : Addr} {xs : List V} {lo hi : Option Int} {H : Hp} {Q : VK} (hx : SqT K H a xs) (k : ∀ (b : Addr) (H' : Hp), Same H H' → SqT K H' b (cutV xs lo hi) → Q (.ref b) H') : rSlA K (.ref a) lo hi H Q :=
  ⟨a, xs, rfl, hx, fun h => k a H (Same.refl H) (by rw [whole_cut h]; exact hx), fun _ p hp => k p _ (same_new hp) (SqT.of upd_same)⟩
theorem catA_go {a b : Addr} {xs ys : List V} {H : Hp} {Q : VK} (ha : SqT K H a xs) (hb : SqT K H b ys) (hz : xs.length + ys.length ≤ sizeLine) (k : ∀ (q : Addr) (H' : Hp), Same H H' → SqT K H' q (xs ++ ys) → Q (.ref q) H') : rCatA K (.ref a) (.ref b) H Q :=
  ⟨a, b, xs, ys, rfl, rfl, ha, hb, hz, fun e => k b H (Same.refl H) (by rw [e]; exact hb), fun _ e => k a H (Same.refl H) (by rw [e, List.append_nil]; exact ha), fun _ _ p hp => k p _ (same_new hp) (SqT.of upd_same)⟩
theorem cut_take (xs : List V) (n : Nat) : cutV xs none (some (n : Int)) = xs.take n := cut_none
theorem cut_drop (xs : List V) (n : Nat) : cutV xs (some (n : Int)) none = xs.drop n := by
  unfold cutV
  have e1 : HT.sIx xs.length xs.length none = xs.length := rfl
  have e2 : HT.sIx xs.length 0 (some (n : Int)) = min n xs.length := HT.sIx_nat ..
  rw [e1, e2]
  rcases Nat.le_total n xs.length with h | h
  · rw [Nat.min_eq_left h]
    exact List.take_of_length_le (by rw [List.length_drop]; exact Nat.le_refl _)
  · rw [Nat.min_eq_right h, List.drop_eq_nil_of_le h, List.drop_eq_nil_of_le (Nat.le_refl _), List.take_nil]
/-! ### check_index -/
def spIdx : Sp := fun vs H Q _ => ∃ i n : Nat, vs = [.int i, .int n] ∧ i < n ∧ Q .non H
theorem sc_idx : FnScope ["at", "many"] ["at", "many"] (defScope s_check_index) := ⟨rfl, rfl, rfl, by decide +kernel, rfl, by decide +kernel, by decide +kernel⟩
theorem ok_idx {f : Addr} {fd : FuncData} (F : Fun K "check_index" "check_index" s_check_index f fd) : FnOk P w K mg base CX0 1 f fd ["at", "many"] spIdx := by
  refine F.ok sc_idx (fun vs H Q E h => ?_) (fun cdv A outer s H vs Q E hr h => ?_)
  · obtain ⟨i, n, rfl, _⟩ := h
    rfl
  · obtain ⟨i, n, rfl, hi, k⟩ := h
    refine ⟨_, pss_one (ps_if (pt_not (pt_chain op_le op_lt pe_int (pv 0) (pv 1))) pss_never pss_nil), ?_⟩
    have e1 : decide ((0 : Int) ≤ (i : Nat)) = true := decide_eq_true (by omega)
    have e2 : decide (((i : Nat) : Int) < (n : Nat)) = true := decide_eq_true (by omega)
    refine ⟨_, rfl, _, _, rfl, rfl, true, congrArg V.bl e1, iteT ⟨_, rfl, _, _, rfl, rfl, true, congrArg V.bl e2, iteF k⟩⟩
/-- check_index, rows: as they are called -/
structure IdxOk (P : Program) (w : World) (K : PySem.W.Frag) (mg : Str → Option Value) (base : Heap) (f : Addr) (fd : FuncData) : Prop where
  g : FnOk P w K mg base CX0 1 f fd ["at", "many"] spIdx
  b : Binds K fd ["at", "many"] []
  m : mg "check_index" = some (.ref f)
  kp : PySem.W.keepIn K (.ref f) = true
theorem RowsAt.takeP {H : Hp} : ∀ {ps : List Addr} {rs : List R} (n : Nat), RowsAt c H ps rs → RowsAt c H (ps.take n) (rs.take n)
  | _, _, 0, _ => .nil
  | _, _, _ + 1, .nil => .nil
  | _, _, n + 1, .cons h t => .cons h (RowsAt.takeP n t)
theorem RowsAt.dropP {H : Hp} : ∀ {ps : List Addr} {rs : List R} (n : Nat), RowsAt c H ps rs → RowsAt c H (ps.drop n) (rs.drop n)
  | _, _, 0, h => h
  | _, _, _ + 1, .nil => .nil
  | _, _, n + 1, .cons _ t => RowsAt.dropP n t
theorem ok_take {rs : List R} {n : Nat} (h : ∀ r ∈ rs, r.ok = true) : ∀ r ∈ rs.take n, r.ok = true := fun r hr => h r (List.mem_of_mem_take hr)
theorem ok_drop {rs : List R} {n : Nat} (h : ∀ r ∈ rs, r.ok = true) : ∀ r ∈ rs.drop n, r.ok = true := fun r hr => h r (List.mem_of_mem_drop hr)
theorem ok_app {rs ss : List R} (h : ∀ r ∈ rs, r.ok = true) (h' : ∀ r ∈ ss, r.ok = true) : ∀ r ∈ rs ++ ss, r.ok = true := fun r hr => (List.mem_append.mp hr).elim (h r) (h' r)
theorem made_at' {K : PySem.W.Frag} {c : Cs} {S : Addr} {H : Hp} {a : Addr} {ps : List Addr} {rs : List R} (hq : SqS K H a (ps.map V.ref)) (hR : RowsAt c H ps rs) (hok : ∀ r ∈ rs, r.ok = true) (hz : rs.length ≤ 100) {x dx : Addr} (nx : H x = none) (nd : H dx = none) {Kv : VK} {E : XK}
    (k : ∀ H' : Hp, Same H H' → StackAt K c S H' x rs → Kv .non H') : spInitS K c S [.ref x, .ref a] (upd (upd H dx (.own x)) x (.ins S dx [])) Kv E := by
  have s1 : Same H (upd (upd H dx (.own x)) x (.ins S dx [])) := same_upd (same_new nd) nx
  exact ⟨x, dx, a, ps, rs, rfl, upd_same, hq.sm s1, hR.same s1, hok, hz, fun H' h' k' => k _ (made_same nx nd k') h'⟩
/-! ### without -/
def spWithout (K : PySem.W.Frag) (c : Cs) (S : Addr) : Sp := fun vs H Q _ => ∃ (p : Addr) (rs : List R) (i : Nat), vs = [.ref p, .int i] ∧ StackAt K c S H p rs ∧ i < rs.length ∧ ∀ (q : Addr) (H' : Hp), Same H H' → StackAt K c S H' q (rs.take i ++ rs.drop (i + 1)) → Q (.ref q) H'
theorem sc_without : FnScope ["self", "at"] ["self", "at"] (defScope s_Stack_without) := ⟨rfl, rfl, rfl, by decide +kernel, rfl, by decide +kernel, by decide +kernel⟩
theorem ok_without {f fI fX d0 : Addr} {fd dI dX : FuncData} (F : Fun K "without" "Stack.without" s_Stack_without f fd) (TS : TxtS K mg S gsS geS glS) (M : MakeS P w K mg base c S fI d0 dI) (GX : IdxOk P w K mg base fX dX) :
    FnOk P w K mg base CX0 5 f fd ["self", "at"] (spWithout K c S) := by
  refine F.ok sc_without (fun vs H Q E h => ?_) (fun cdv A outer s H vs Q E hr h => ?_)
  · obtain ⟨p, rs, i, rfl, _⟩ := h
    rfl
  · obtain ⟨p, rs, i, rfl, ⟨dx, a, ps, hp, hq, hR, hok, hz⟩, hi, k⟩ := h
    have r1 := hr.mono (show 1 ≤ 4 by decide)
    refine ⟨_, pss_cons (ps_expr (pe_call GX.g r1 (by rfl) GX.m GX.kp GX.b .nil pass0 (pa_cons (pv 1) (pa_cons (pe_callB call_len_seq (by rfl) TS.len_ PySem.boot_len (pa_cons (pe_fld (pv 0) rfl) pa_nil)) pa_nil))))
      (pss_one (ps_ret (pe_make M.mkr M.g hr (by rfl) TS.mStack M.b .nil pass0 (pa_cons (pe_op op_catA (pe_slice sl_tupA (pe_fld (pv 0) rfl) po_none (po_some (pv 1))) (pe_slice sl_tupA (pe_fld (pv 0) rfl) (po_some (pe_op op_add (pv 1) pe_int)) po_none)) pa_nil)))), ?_⟩
    have hl := hR.len
    refine ⟨_, rfl, _, rfl, p, S, dx, _, _, rfl, hp, TS.own.cl, TS.nR, fStack_rows a, a, _, rfl, .inr hq, i, (ps.map V.ref).length, rfl, by rw [List.length_map]; omega, ?_⟩
    refine ⟨_, rfl, p, S, dx, _, _, rfl, hp, TS.own.cl, TS.nR, fStack_rows a, _, rfl, _, rfl, ?_⟩
    refine slA_go hq fun b1 H1 s1 hb1 => ?_
    rw [cut_take] at hb1
    refine ⟨_, rfl, p, S, dx, _, _, rfl, s1 _ _ hp, TS.own.cl, TS.nR, fStack_rows a, _, rfl, _, _, rfl, rfl, _, rfl, ?_⟩
    unfold tNoPart
    refine slA_go (SqT.sm hq s1) fun b2 H2 s2 hb2 => ?_
    have e2 : ((i : Int) + 1) = ((i + 1 : Nat) : Int) := by omega
    rw [e2, cut_drop] at hb2
    refine catA_go (SqT.sm hb1 s2) hb2 (by rw [List.length_take, List.length_drop, List.length_map, sizeLine_eq]; omega) fun b3 H3 s3 hb3 => ?_
    have s13 : Same H H3 := (s1.trans s2).trans s3
    have em : (ps.map V.ref).take i ++ (ps.map V.ref).drop (i + 1) = (ps.take i ++ ps.drop (i + 1)).map V.ref := by rw [List.map_append, List.map_take, List.map_drop]
    rw [em] at hb3
    refine fun x dxx nx ndx ne => made_at' (.inr hb3) (((hR.same s13).takeP i).append ((hR.same s13).dropP (i + 1))) (ok_app (ok_take hok) (ok_drop hok)) (by rw [List.length_append, List.length_take, List.length_drop]; omega) nx ndx fun H4 s4 hS => ⟨rfl, ?_⟩
    exact k x H4 (s13.trans s4) hS
/-! ### put -/
def spPut (K : PySem.W.Frag) (c : Cs) (S : Addr) : Sp := fun vs H Q _ => ∃ (p q : Addr) (rs : List R) (r : R) (i : Nat), vs = [.ref p, .int i, .ref q] ∧ StackAt K c S H p rs ∧ RowAt c H q r ∧ r.ok = true ∧ i ≤ rs.length ∧ rs.length ≤ 90 ∧ ∀ (t : Addr) (H' : Hp), Same H H' → StackAt K c S H' t (rs.take i ++ [r] ++ rs.drop i) → Q (.ref t) H'
abbrev nPut : List Str := ["self", "at", "row", "rows"]
theorem sc_put : FnScope nPut ["self", "at", "row"] (defScope s_Stack_put) := ⟨rfl, rfl, rfl, by decide +kernel, rfl, by decide +kernel, by decide +kernel⟩
theorem ok_put {f fI fX d0 : Addr} {fd dI dX : FuncData} (F : Fun K "put" "Stack.put" s_Stack_put f fd) (TS : TxtS K mg S gsS geS glS) (M : MakeS P w K mg base c S fI d0 dI) (GX : IdxOk P w K mg base fX dX) :
    FnOk P w K mg base CX0 5 f fd ["self", "at", "row"] (spPut K c S) := by
  refine F.ok sc_put (fun vs H Q E h => ?_) (fun cdv A outer s H vs Q E hr h => ?_)
  · obtain ⟨p, q, rs, r, i, rfl, _⟩ := h
    rfl
  · obtain ⟨p, q, rs, r, i, rfl, ⟨dx, a, ps, hp, hq, hR, hok, hz⟩, hqr, rok, hi, hz9, k⟩ := h
    have r1 := hr.mono (show 1 ≤ 4 by decide)
    refine ⟨_, pss_cons (ps_expr (pe_call GX.g r1 (by rfl) GX.m GX.kp GX.b .nil pass0 (pa_cons (pv 1) (pa_cons (pe_op op_add (pe_callB call_len_seq (by rfl) TS.len_ PySem.boot_len (pa_cons (pe_fld (pv 0) rfl) pa_nil)) pe_int) pa_nil))))
      (pss_cons (ps_set (i := 3) sc_put.nd rfl (Or.inl rfl) (pe_callTy call_list_of (by rfl) TS.list_ (by decide +kernel) (pa_cons (pe_fld (pv 0) rfl) pa_nil)))
      (pss_cons (ps_expr (pe_bm PySem.F.plainAttrs_list PySem.F.slot_list_insert PySem.F.type_list_insert mt_insert (pv 3) (pa_cons (pv 1) (pa_cons (pv 2) pa_nil))))
      (pss_one (ps_ret (pe_make M.mkr M.g hr (by rfl) TS.mStack M.b .nil pass0 (pa_cons (pv 3) pa_nil)))))), ?_⟩
    have hl := hR.len
    refine ⟨_, rfl, _, rfl, p, S, dx, _, _, rfl, hp, TS.own.cl, TS.nR, fStack_rows a, a, _, rfl, .inr hq, _, _, rfl, rfl, i, (ps.map V.ref).length + 1, rfl, by rw [List.length_map]; omega, ?_⟩
    refine ⟨_, rfl, p, S, dx, _, _, rfl, hp, TS.own.cl, TS.nR, fStack_rows a, a, _, rfl, .inr hq, fun l hl' => ?_⟩
    have s1 : Same H (upd H l (.lst (ps.map V.ref))) := same_new hl'
    refine ⟨_, rfl, .inl ⟨rfl, _, SqL.of upd_same⟩, _, rfl, _, rfl, l, _, i, .ref q, rfl, rfl, upd_same, by rw [List.length_map]; exact small1000 (by omega), by omega, by omega, ?_⟩
    have em : (ps.map V.ref).take (i : Int).toNat ++ [V.ref q] ++ (ps.map V.ref).drop (i : Int).toNat = (ps.take i ++ [q] ++ ps.drop i).map V.ref := by
      rw [Int.toNat_natCast, List.map_append, List.map_append, List.map_take, List.map_drop]; rfl
    rw [em]
    have s2 : Same H (upd (upd H l (.lst (ps.map V.ref))) l (.lst ((ps.take i ++ [q] ++ ps.drop i).map V.ref))) := same_upd s1 hl'
    have hR2 := hR.same s2
    have hq2 := RowAt.same s2 hqr
    refine ⟨_, rfl, ?_⟩
    refine fun x dxx nx ndx ne => made_at' (.inl (SqL.of upd_same)) (((hR2.takeP i).append (.cons hq2 .nil)).append (hR2.dropP i)) (ok_app (ok_app (ok_take hok) (fun z hz' => by rw [List.mem_singleton.mp hz']; exact rok)) (ok_drop hok)) (by rw [List.length_append, List.length_append, List.length_take, List.length_drop, List.length_singleton]; omega) nx ndx fun H4 s4 hS => ⟨rfl, ?_⟩
    exact k x H4 (s2.trans s4) hS
/-! ### + -/
def spAdd (K : PySem.W.Frag) (c : Cs) (S : Addr) : Sp := fun vs H Q _ => ∃ (p q : Addr) (rs ss : List R), vs = [.ref p, .ref q] ∧ StackAt K c S H p rs ∧ StackAt K c S H q ss ∧ rs.length + ss.length ≤ 100 ∧ ∀ (t : Addr) (H' : Hp), Same H H' → StackAt K c S H' t (rs ++ ss) → Q (.ref t) H'
theorem sc_add : FnScope ["self", "other"] ["self", "other"] (defScope s_Stack_add) := ⟨rfl, rfl, rfl, by decide +kernel, rfl, by decide +kernel, by decide +kernel⟩
theorem ok_add {f fI d0 : Addr} {fd dI : FuncData} (F : Fun K "__add__" "Stack.__add__" s_Stack_add f fd) (TS : TxtS K mg S gsS geS glS) (M : MakeS P w K mg base c S fI d0 dI) :
    FnOk P w K mg base CX0 5 f fd ["self", "other"] (spAdd K c S) := by
  refine F.ok sc_add (fun vs H Q E h => ?_) (fun cdv A outer s H vs Q E hr h => ?_)
  · obtain ⟨p, q, rs, ss, rfl, _⟩ := h
    rfl
  · obtain ⟨p, q, rs, ss, rfl, ⟨dx, a, ps, hp, hpt, hR, hok, hz⟩, ⟨dy, b, qs, hq, hqt, hR', hok', hz'⟩, hz2, k⟩ := h
    refine ⟨_, pss_cons (ps_if (pt_not (pt_val (pe_callB call_isi (by rfl) TS.isi (by decide +kernel) (pa_cons (pv 1) (pa_cons (pe_glob (v := .ref S) (by rfl) TS.mStack rfl) pa_nil))))) pss_never pss_nil)
      (pss_one (ps_ret (pe_make M.mkr M.g hr (by rfl) TS.mStack M.b .nil pass0 (pa_cons (pe_op op_catA (pe_fld (pv 0) rfl) (pe_fld (pv 1) rfl)) pa_nil)))), ?_⟩
    refine ⟨_, rfl, _, _, _, _, true, rfl, .own _, TS.own.ty hq, TS.isS, true, rfl, iteF ?_⟩
    refine ⟨_, rfl, p, S, dx, _, _, rfl, hp, TS.own.cl, TS.nR, fStack_rows a, _, rfl, q, S, dy, _, _, rfl, hq, TS.own.cl, TS.nR, fStack_rows b, ?_⟩
    have hl := hR.len
    have hl' := hR'.len
    refine catA_go hpt hqt (by rw [List.length_map, List.length_map, sizeLine_eq]; omega) fun b3 H3 s3 hb3 => ?_
    rw [← List.map_append] at hb3
    refine fun x dxx nx ndx ne => made_at' (.inr hb3) ((hR.same s3).append (hR'.same s3)) (ok_app hok hok') (by rw [List.length_append]; exact hz2) nx ndx fun H4 s4 hS => ⟨rfl, ?_⟩
    exact k x H4 (s3.trans s4) hS
/-! ### [i] -/
def spItem (K : PySem.W.Frag) (c : Cs) (S : Addr) : Sp := fun vs H Q _ => ∃ (p : Addr) (rs : List R) (r : R) (i : Nat), vs = [.ref p, .int i] ∧ StackAt K c S H p rs ∧ rs[i]? = some r ∧ ∀ q, RowAt c H q r → r.ok = true → Q (.ref q) H
theorem sc_item : FnScope ["self", "at"] ["self", "at"] (defScope s_Stack_getitem) := ⟨rfl, rfl, rfl, by decide +kernel, rfl, by decide +kernel, by decide +kernel⟩
theorem ok_item {f fX : Addr} {fd dX : FuncData} (F : Fun K "__getitem__" "Stack.__getitem__" s_Stack_getitem f fd) (TS : TxtS K mg S gsS geS glS) (GX : IdxOk P w K mg base fX dX) :
    FnOk P w K mg base CX0 2 f fd ["self", "at"] (spItem K c S) := by
  refine F.ok sc_item (fun vs H Q E h => ?_) (fun cdv A outer s H vs Q E hr h => ?_)
  · obtain ⟨p, rs, r, i, rfl, _⟩ := h
    rfl
  · obtain ⟨p, rs, r, i, rfl, ⟨dx, a, ps, hp, hq, hR, hok, hz⟩, hi, k⟩ := h
    refine ⟨_, pss_cons (ps_expr (pe_call GX.g hr (by rfl) GX.m GX.kp GX.b .nil pass0 (pa_cons (pv 1) (pa_cons (pe_callB call_len_seq (by rfl) TS.len_ PySem.boot_len (pa_cons (pe_fld (pv 0) rfl) pa_nil)) pa_nil))))
      (pss_one (ps_ret (pe_ix ix_tup (pe_fld (pv 0) rfl) (pv 1) (fun _ _ => rfl)))), ?_⟩
    have hl := hR.len
    have hil : i < rs.length := (List.getElem?_eq_some_iff.mp hi).1
    obtain ⟨q, hq', hrow⟩ : ∃ q, ps[i]? = some q ∧ RowAt c H q r := by
      have h1 : i < ps.length := by omega
      obtain ⟨r', e1, e2⟩ := pair_get hR (List.getElem?_eq_getElem h1)
      rw [hi] at e1
      cases e1
      exact ⟨ps[i], List.getElem?_eq_getElem h1, e2⟩
    refine ⟨_, rfl, _, rfl, p, S, dx, _, _, rfl, hp, TS.own.cl, TS.nR, fStack_rows a, a, _, rfl, .inr hq, i, (ps.map V.ref).length, rfl, by rw [List.length_map]; omega, ?_⟩
    refine ⟨_, rfl, p, S, dx, _, _, rfl, hp, TS.own.cl, TS.nR, fStack_rows a, _, rfl, a, _, _, .ref q, rfl, rfl, hq, atI_nat (by rw [List.getElem?_map, hq']; rfl), ?_⟩
    exact k q hrow (hok r (List.mem_of_getElem? hi))
end
end Ow
end
section
namespace Ow
open PySem L2 Own
section
variable {P : Program} {w : World} {K : PySem.W.Frag} {mg : Str → Option Value} {base : Heap} {c : Cs} {gs ge : Addr} {S gsS geS glS : Addr}
theorem RowsAt.setP {H : Hp} {q : Addr} {r : R} (hq : RowAt c H q r) : ∀ {ps : List Addr} {rs : List R} (i : Nat), RowsAt c H ps rs → RowsAt c H (ps.set i q) (rs.set i r)
  | _, _, _, .nil => .nil
  | _, _, 0, .cons _ t => .cons hq t
  | _, _, i + 1, .cons h t => .cons h (RowsAt.setP hq i t)
theorem ok_set {rs : List R} {r : R} {i : Nat} (h : ∀ r ∈ rs, r.ok = true) (hr : r.ok = true) : ∀ x ∈ rs.set i r, x.ok = true := fun x hx => by
  rcases List.mem_or_eq_of_mem_set hx with hx | hx
  · exact h x hx
  · rw [hx]; exact hr
theorem ixN_nt {n j : Nat} (hj : j < n) : ixN n (j : Int) = some j := by
  unfold ixN
  rw [if_pos (by omega), if_pos (by omega), Int.toNat_natCast]
/-! ### swapped -/
def spSwapped (K : PySem.W.Frag) (c : Cs) (S : Addr) : Sp := fun vs H Q _ => ∃ (p : Addr) (rs : List R) (r s : R) (i : Nat), vs = [.ref p, .int i] ∧ StackAt K c S H p rs ∧ rs[i]? = some r ∧ rs[i + 1]? = some s ∧ ∀ (q : Addr) (H' : Hp), Same H H' → StackAt K c S H' q ((rs.set i s).set (i + 1) r) → Q (.ref q) H'
abbrev nSwap : List Str := ["self", "at"]
theorem sc_swap : FnScope nSwap ["self", "at"] (defScope s_Stack_swapped) := ⟨rfl, rfl, rfl, by decide +kernel, rfl, by decide +kernel, by decide +kernel⟩
/-- a tuple with two neighbours exchanged -/
def spExch (K : PySem.W.Frag) : Sp := fun vs H Q _ => ∃ (a : Addr) (xs : List V) (i : Nat) (u v : V), vs = [.ref a, .int i] ∧ SqT K H a xs ∧ xs[i]? = some u ∧ xs[i + 1]? = some v ∧ xs.length ≤ 1000 ∧
  ∀ (b : Addr) (H' : Hp), Same H H' → SqT K H' b (xs.take i ++ v :: u :: xs.drop (i + 2)) → Q (.ref b) H'
abbrev nExch : List Str := ["things", "at"]
theorem sc_exch : FnScope nExch ["things", "at"] (defScope s_exchanged) := ⟨rfl, rfl, rfl, by decide +kernel, rfl, by decide +kernel, by decide +kernel⟩
theorem ok_exch {f : Addr} {fd : FuncData} (F : Fun K "exchanged" "exchanged" s_exchanged f fd) : FnOk P w K mg base CX0 1 f fd ["things", "at"] (spExch K) := by
  refine F.ok sc_exch (fun vs H Q E h => ?_) (fun cdv A outer s H vs Q E hr h => ?_)
  · obtain ⟨a, xs, i, u, v, rfl, _⟩ := h
    rfl
  · obtain ⟨a, xs, i, u, v, rfl, hq, hi, hj, hz, k⟩ := h
    refine ⟨_, pss_one (ps_ret (pe_tup (StX.pa_star (pe_slice sl_tupA (pv 0) po_none (po_some (pv 1))) (pa_cons (pe_ix ix_tup (pv 0) (pe_op op_add (pv 1) pe_int) (fun _ _ => rfl)) (pa_cons (pe_ix ix_tup (pv 0) (pv 1) (fun _ _ => rfl))
      (StX.pa_star (pe_slice sl_tupA (pv 0) (po_some (pe_op op_add (pv 1) pe_int)) po_none) pa_nil)))))), ?_⟩
    have ei : ((i : Int) + 1) = ((i + 1 : Nat) : Int) := by omega
    have e2 : ((i : Int) + 2) = ((i + 2 : Nat) : Int) := by omega
    refine ⟨_, rfl, ?_⟩
    unfold tNoPart
    refine ⟨_, rfl, _, rfl, ?_⟩
    refine slA_go hq fun b1 H1 s1 hb1 => ?_
    rw [cut_take] at hb1
    refine ⟨b1, _, rfl, .inl hb1, ?_⟩
    refine ⟨_, rfl, _, rfl, _, _, rfl, rfl, a, xs, _, v, rfl, rfl, SqT.sm hq s1, by rw [ei]; exact atI_nat hj, ?_⟩
    refine ⟨_, rfl, _, rfl, a, xs, _, u, rfl, rfl, SqT.sm hq s1, atI_nat hi, ?_⟩
    refine ⟨_, rfl, _, rfl, _, _, rfl, rfl, _, rfl, ?_⟩
    refine slA_go (SqT.sm hq s1) fun b2 H2 s2 hb2 => ?_
    rw [e2, cut_drop] at hb2
    refine ⟨b2, _, rfl, .inl hb2, ?_⟩
    have il : i + 1 < xs.length := (List.getElem?_eq_some_iff.mp hj).1
    refine ⟨by rw [sizeLine_eq]; simp [List.length_take, List.length_drop]; omega, fun t ht => ?_⟩
    refine k t _ ((s1.trans s2).trans (same_new ht)) ?_
    have := SqT.of (K := K) (H := upd H2 t (.tup (xs.take i ++ v :: u :: xs.drop (i + 2)))) (a := t) upd_same
    simpa using this
theorem set2 {α : Type} : ∀ {l : List α} {i : Nat} {x y : α}, l[i]? = some x → l[i + 1]? = some y → (l.set i y).set (i + 1) x = l.take i ++ y :: x :: l.drop (i + 2)
  | [], i, x, y, h, _ => by simp at h
  | [a], 0, x, y, _, h => by simp at h
  | a :: b :: r, 0, x, y, h, h2 => by
    simp at h h2
    subst h h2
    simp
  | a :: r, i + 1, x, y, h, h2 => by
    have := set2 (l := r) (i := i) (x := x) (y := y) (by simpa using h) (by simpa using h2)
    simpa using this
theorem ok_swapped {f fI fX fE d0 : Addr} {fd dI dX dE : FuncData} (F : Fun K "swapped" "Stack.swapped" s_Stack_swapped f fd) (TS : TxtS K mg S gsS geS glS) (M : MakeS P w K mg base c S fI d0 dI) (GX : IdxOk P w K mg base fX dX)
    (gE : FnOk P w K mg base CX0 1 fE dE ["things", "at"] (spExch K)) (mE : mg "exchanged" = some (.ref fE)) (kE : PySem.W.keepIn K (.ref fE) = true) (bE : Binds K dE ["things", "at"] []) :
    FnOk P w K mg base CX0 5 f fd ["self", "at"] (spSwapped K c S) := by
  refine F.ok sc_swap (fun vs H Q E h => ?_) (fun cdv A outer s H vs Q E hr h => ?_)
  · obtain ⟨p, rs, r, s, i, rfl, _⟩ := h
    rfl
  · obtain ⟨p, rs, r, s, i, rfl, ⟨dx, a, ps, hp, hq, hR, hok, hz⟩, hi, hj, k⟩ := h
    have r1 := hr.mono (show 1 ≤ 4 by decide)
    refine ⟨_, pss_cons (ps_expr (pe_call GX.g r1 (by rfl) GX.m GX.kp GX.b .nil pass0 (pa_cons (pv 1) (pa_cons (pe_op op_sub (pe_callB call_len_seq (by rfl) TS.len_ PySem.boot_len (pa_cons (pe_fld (pv 0) rfl) pa_nil)) pe_int) pa_nil))))
      (pss_one (ps_ret (pe_make M.mkr M.g hr (by rfl) TS.mStack M.b .nil pass0 (pa_cons (pe_call gE r1 (by rfl) mE kE bE .nil pass0 (pa_cons (pe_fld (pv 0) rfl) (pa_cons (pv 1) pa_nil))) pa_nil)))), ?_⟩
    have hl := hR.len
    have il : i < rs.length := (List.getElem?_eq_some_iff.mp hi).1
    have jl : i + 1 < rs.length := (List.getElem?_eq_some_iff.mp hj).1
    have at' : ∀ {n : Nat} {t : R}, rs[n]? = some t → ∃ q, ps[n]? = some q ∧ RowAt c H q t := fun {n t} e => by
      have h1 : n < ps.length := by have := (List.getElem?_eq_some_iff.mp e).1; omega
      obtain ⟨t', e1, e2⟩ := pair_get hR (List.getElem?_eq_getElem h1)
      rw [e] at e1
      cases e1
      exact ⟨ps[n], List.getElem?_eq_getElem h1, e2⟩
    obtain ⟨q1, e1, h1⟩ := at' hi
    obtain ⟨q2, e2, h2⟩ := at' hj
    have g1 : (ps.map V.ref)[i]? = some (.ref q1) := by rw [List.getElem?_map, e1]; rfl
    have g2 : (ps.map V.ref)[i + 1]? = some (.ref q2) := by rw [List.getElem?_map, e2]; rfl
    refine ⟨_, rfl, _, rfl, p, S, dx, _, _, rfl, hp, TS.own.cl, TS.nR, fStack_rows a, a, _, rfl, .inr hq, _, _, rfl, rfl, i, rs.length - 1, ?_, by omega, ?_⟩
    · rw [List.length_map, hl]
      have : ((rs.length : Nat) : Int) - 1 = ((rs.length - 1 : Nat) : Int) := by omega
      show [V.int (i : Nat), V.int ((rs.length : Nat) - 1)] = _
      rw [this]
    refine ⟨_, rfl, p, S, dx, _, _, rfl, hp, TS.own.cl, TS.nR, fStack_rows a, _, rfl, a, ps.map V.ref, i, .ref q1, .ref q2, rfl, hq, g1, g2, by rw [List.length_map]; omega, fun b3 H3 s3 hb3 => ?_⟩
    have em : (ps.map V.ref).take i ++ V.ref q2 :: V.ref q1 :: (ps.map V.ref).drop (i + 2) = ((ps.set i q2).set (i + 1) q1).map V.ref := by
      rw [set2 e1 e2, List.map_append, List.map_cons, List.map_cons, List.map_take, List.map_drop]
    rw [em] at hb3
    refine fun x dxx nx ndx ne => made_at' (.inr hb3) ((((hR.same s3).setP (h2.same s3) i)).setP (h1.same s3) (i + 1)) (ok_set (ok_set hok (hok s (List.mem_of_getElem? hj))) (hok r (List.mem_of_getElem? hi))) (by rw [List.length_set, List.length_set]; exact hz) nx ndx fun H4 s5 hS => ⟨rfl, ?_⟩
    exact k x H4 (s3.trans s5) hS
end
end Ow
end
section
namespace Ow
open PySem L2 Own
/-- a def, as it is called -/
structure Def (P : Program) (w : World) (K : PySem.W.Frag) (mg : Str → Option Value) (base : Heap) (k : Nat) (x : Str) (ps : List Str) (sp : Sp) (f : Addr) (fd : FuncData) : Prop where
  g : FnOk P w K mg base CX0 k f fd ps sp
  b : Binds K fd ps []
  m : mg x = some (.ref f)
  kp : PySem.W.keepIn K (.ref f) = true
section
variable {P : Program} {w : World} {K : PySem.W.Frag} {mg : Str → Option Value} {base : Heap} {c : Cs} {gs ge : Addr} {S gsS geS glS : Addr}
/-! ### the law's text of a stack, its rows made -/
def spText : Sp := fun vs H Q _ => ∃ (l : Addr) (ts : List Addr) (rs : List R), vs = [.ref l] ∧ H l = some (.lst (ts.map V.ref)) ∧ TupsAt H ts rs ∧ rs.length ≤ 100 ∧ ∀ H', Same H H' → Q (.str (sText rs)) H'
theorem TupsAt.okAll {H : Hp} {ts : List Addr} {rs : List R} (h : TupsAt H ts rs) : ∀ r ∈ rs, r.ok = true := by
  induction h with
  | nil => intro r h; cases h
  | cons a t ih =>
    intro r h
    rcases List.mem_cons.mp h with rfl | h
    · exact a.2
    · exact ih r h
theorem sc_text : FnScope ["_law_rows_here", "_law_row_here"] ["_law_rows_here"] (defScope s_law_text) := ⟨rfl, rfl, rfl, by decide +kernel, rfl, by decide +kernel, by decide +kernel⟩
theorem ok_text {f fT : Addr} {fd dT : FuncData} (F : Fun K "_law_text" "_law_text" s_law_text f fd) (G : Def P w K mg base 1 "_law_row_text" ["_law_row_here"] spRowText fT dT) : FnOk P w K mg base CX0 2 f fd ["_law_rows_here"] spText := by
  refine F.ok sc_text (fun vs H Q E h => ?_) (fun cdv A outer s H vs Q E hr h => ?_)
  · obtain ⟨l, ts, rs, rfl, _⟩ := h
    rfl
  · obtain ⟨l, ts, rs, rfl, hl, hT, hz, k⟩ := h
    refine ⟨_, pss_one (ps_ret (pe_join pe_str (pe_lc (own := [("_law_row_here", 1)]) (g := gName 1) (tt := tYes) rfl sc_text.nd (pi_list (pv 0))
        (blkOk_by (N := ["_law_rows_here", "_law_row_here"]) (sc := defScope s_law_text) (by decide +kernel)) (fun _ _ _ _ _ => pg_name (i := 1) sc_text.nd rfl (Or.inl rfl)) (fun _ _ _ _ _ => pts_nil)
        (fun _ _ _ _ _ => pe_call G.g hr (by rfl) G.m G.kp G.b .nil pass0 (pa_cons (pv 1) pa_nil))))), ?_⟩
    refine ⟨⟨_, rfl⟩, _, rfl, l, rfl, ⟨_, SqL.of hl⟩, fun D hD => ?_⟩
    have hlen := Paired.length hT
    refine lc_list (K := K) (a := l) (xs := ts.map V.ref) (fun i H2 => H2 D = some (.lst ((rowTexts (rs.take i)).map V.str)) ∧ Same H H2) ⟨upd_same, same_new hD⟩ (fun i H2 _ z => SqL.of (z.2 _ _ hl)) ?_ ?_
    · rintro i x H2 hx ⟨eD, s2⟩
      obtain ⟨q, hq', rfl⟩ := ref_at hx
      obtain ⟨r, hr', ht⟩ := pair_get hT hq'
      refine ⟨by rfl, _, rfl, q, r, rfl, ⟨s2 _ _ ht.1, ht.2⟩, fun H3 s3 => ?_⟩
      refine ⟨_, s3 _ _ eD, ?_, ?_, same_upd (s2.trans s3) hD⟩
      · rw [List.length_map, rowTexts_len, List.length_take]; exact small1000 (by omega)
      · rw [upd_same, take_next hr']
        unfold rowTexts
        rw [List.map_append, List.map_append]
        rfl
    · rintro H2 ⟨eD, s2⟩
      rw [List.length_map, hlen, List.take_length] at eD
      refine ⟨_, D, rowTexts rs, rfl, rfl, .inl (SqL.of eD), ?_, k _ s2⟩
      have h3 := sum_texts rs (TupsAt.okAll hT)
      have h4 : Str.length "\n" = 1 := by decide +kernel
      rw [rowTexts_len, h4]
      omega
end
end Ow
end
section
namespace Ow
open PySem L2 Own
section
variable {P : Program} {w : World} {K : PySem.W.Frag} {mg : Str → Option Value} {base : Heap} {c : Cs} {gs ge : Addr} {S gsS geS glS : Addr}
theorem base_rng {L : Int} (h0 : 0 ≤ L) : 1 ≤ (if (if L < 3 then L else 3) > 1 then (if L < 3 then L else 3) else 1) ∧ (if (if L < 3 then L else 3) > 1 then (if L < 3 then L else 3) else 1) ≤ (3 : Int) := by
  split <;> split <;> omega
/-- Stack.read, as it is called -/
structure ReadS (P : Program) (w : World) (K : PySem.W.Frag) (mg : Str → Option Value) (base : Heap) (c : Cs) (S pS fS : Addr) (dS : FuncData) (mc : Value) : Prop where
  g : FnOk P w K mg base CX0 8 fS dS ["cls", "text"] (spReadS K c S)
  b : Binds K dS ["cls", "text"] []
  cr : ClX.CRead K S mc
  cm : ClX.CMet K S mc "read" pS fS
def spLaw (K : PySem.W.Frag) : Sp := fun vs H Q _ => ∃ (a : Addr) (ns : List Int), vs = [.ref a] ∧ SqL K H a (ns.map V.int) ∧ ns.length ≤ 63 ∧ ∀ H', Q (.bl true) H'
end
end Ow
end
section
namespace Ow
open PySem L2 Own
section
variable {K : PySem.W.Frag} {mg : Str → Option Value} {c : Cs} {gs ge : Addr} {S gsS geS glS : Addr}
theorem fStack_no (a : Addr) {m : Str} (h : ¬ m = "rows") : (fStack a).lookup m = none := by unfold fStack; rw [lookup_putF, if_neg h]; rfl
theorem neS_go (TS : TxtS K mg S gsS geS glS) {G : Hp} {p q : Addr} {rs : List R} {E : XK} {Qt : Bool → Hp → Prop} (h1 : StackAt K c S G p rs) (h2 : StackAt K c S G q rs) (k : ∀ G', Same G G' → Qt false G') :
    rEqOwn K geS (fun vs H Q E => spEqS K c S (vs ++ []) H Q E) E not (.ref p) (.ref q) G (fun x H' => ∃ b, x = .bl b ∧ Qt b H') := by
  obtain ⟨d1, a1, _, hp, _⟩ := id h1
  obtain ⟨d2, a2, _, hq, _⟩ := id h2
  exact ⟨p, S, d1, _, gsS, .ref S, rfl, hp, TS.own, TS.own.ty hq, TS.nf, p, rs, .ref q, rfl, h1, .inl ⟨q, rs, rfl, h2, fun G' s => ⟨_, rfl, _, rfl, by rw [decide_eq_true rfl]; exact k G' s⟩⟩⟩
theorem neR_go (T : Txt' K mg c gs ge) {G : Hp} {p q : Addr} {r : R} {E : XK} {Qt : Bool → Hp → Prop} (hok : r.ok = true) (h1 : RowAt c G p r) (h2 : RowAt c G q r) (k : ∀ G', Same G G' → Qt false G') :
    rEqOwn K ge (fun vs H Q E => spEq K c (vs ++ []) H Q E) E not (.ref p) (.ref q) G (fun x H' => ∃ b, x = .bl b ∧ Qt b H') := by
  obtain ⟨d1, hp⟩ := id h1
  obtain ⟨d2, hq⟩ := id h2
  exact ⟨p, c.of r, d1, _, gs, .ref (c.of r), rfl, hp, T.own r, (T.own r).ty hq, by simp [PySem.W.notFirst], p, r, .ref q, rfl, hok, h1, .inl ⟨q, r, rfl, hok, h2, fun G' s => ⟨_, rfl, _, rfl, by rw [decide_eq_true rfl]; exact k G' s⟩⟩⟩
theorem strS_go (TS : TxtS K mg S gsS geS glS) {G : Hp} {p : Addr} {rs : List R} {E : XK} {Q : VK} (h : StackAt K c S G p rs) (k : ∀ G', Same G G' → Q (.str (sText rs)) G') :
    rStrOwn K gsS (fun vs H Q E => spStrS K c S (vs ++ []) H Q E) E [.ref p] G Q := by
  obtain ⟨d1, a1, _, hp, _⟩ := id h
  exact ⟨p, S, d1, _, geS, rfl, hp, TS.own, p, rs, rfl, h, fun G' s => ⟨_, rfl, k G' s⟩⟩
theorem ne_go {G : Hp} {a : Str} {Qt : Bool → Hp → Prop} (k : Qt false G) : rNe (.str a) (.str a) G (fun x H' => ∃ b, x = .bl b ∧ Qt b H') := ⟨rfl, _, rfl, by rw [decide_eq_true rfl]; exact k⟩
theorem sl_to {l : Addr} {ts : List Addr} {n : Nat} {H : Hp} {Q : VK} (el : H l = some (.lst (ts.map V.ref))) (k : ∀ (b : Addr) (H' : Hp), Same H H' → H' b = some (.lst ((ts.take n).map V.ref)) → Q (.ref b) H') : rSlL K (.ref l) none (some (n : Int)) H Q :=
  ⟨l, _, rfl, SqL.of el, fun p hp => k p _ (same_new hp) (by rw [upd_same, cut_take, List.map_take])⟩
theorem sl_from {l : Addr} {ts : List Addr} {z : Int} {n : Nat} {H : Hp} {Q : VK} (el : H l = some (.lst (ts.map V.ref))) (hz : z = (n : Nat)) (k : ∀ (b : Addr) (H' : Hp), Same H H' → H' b = some (.lst ((ts.drop n).map V.ref)) → Q (.ref b) H') : rSlL K (.ref l) (some z) none H Q := by
  subst hz
  exact ⟨l, _, rfl, SqL.of el, fun p hp => k p _ (same_new hp) (by rw [upd_same, cut_drop, List.map_drop])⟩
theorem cat_go {a b : Addr} {xs ys : List Addr} {H : Hp} {Q : VK} (ea : H a = some (.lst (xs.map V.ref))) (eb : H b = some (.lst (ys.map V.ref))) (hz : xs.length + ys.length ≤ 1000) (k : ∀ (q : Addr) (H' : Hp), Same H H' → H' q = some (.lst ((xs ++ ys).map V.ref)) → Q (.ref q) H') : rCat (.ref a) (.ref b) H Q :=
  ⟨a, b, _, _, rfl, rfl, ea, eb, by rw [List.length_map, List.length_map]; exact small_len hz, fun p hp => k p _ (same_new hp) (by rw [upd_same, List.map_append])⟩
theorem pair_take {α β : Type} {F : α → β → Prop} : ∀ {xs : List α} {ys : List β} (n : Nat), Paired F xs ys → Paired F (xs.take n) (ys.take n)
  | _, _, 0, _ => .nil
  | _, _, _ + 1, .nil => .nil
  | _, _, n + 1, .cons h t => .cons h (pair_take n t)
theorem pair_drop {α β : Type} {F : α → β → Prop} : ∀ {xs : List α} {ys : List β} (n : Nat), Paired F xs ys → Paired F (xs.drop n) (ys.drop n)
  | _, _, 0, h => h
  | _, _, _ + 1, .nil => .nil
  | _, _, n + 1, .cons _ t => pair_drop n t
theorem pair_app {α β : Type} {F : α → β → Prop} : ∀ {xs zs : List α} {ys ws : List β}, Paired F xs ys → Paired F zs ws → Paired F (xs ++ zs) (ys ++ ws)
  | _, _, _, _, .nil, h => h
  | _, _, _, _, .cons a t, h => .cons a (pair_app t h)
theorem pair_get' {α β : Type} {F : α → β → Prop} : ∀ {xs : List α} {ys : List β} {i : Nat} {y : β}, Paired F xs ys → ys[i]? = some y → ∃ x, xs[i]? = some x ∧ F x y
  | _, _, _, _, .nil, e => by cases e
  | _, _, 0, _, .cons r _, e => by cases e; exact ⟨_, rfl, r⟩
  | _, _, i + 1, _, .cons _ t, e => pair_get' (i := i) t e
theorem swap_eq {α : Type} : ∀ {rs : List α} {j : Nat} {r s : α}, rs[j]? = some r → rs[j + 1]? = some s → (rs.set j s).set (j + 1) r = rs.take j ++ [s, r] ++ rs.drop (j + 2)
  | [], _, _, _, h, _ => by cases h
  | [_], 0, _, _, _, h => by cases h
  | [_], _ + 1, _, _, h, _ => by cases h
  | x :: y :: t, 0, _, _, h1, h2 => by cases h1; cases h2; rfl
  | x :: y :: t, j + 1, r, s, h1, h2 => congrArg (x :: ·) (swap_eq (rs := y :: t) (j := j) h1 h2)
theorem swap_back {α : Type} : ∀ {rs : List α} {j : Nat} {r s : α}, rs[j]? = some r → rs[j + 1]? = some s → ((rs.set j s).set (j + 1) r)[j]? = some s ∧ ((rs.set j s).set (j + 1) r)[j + 1]? = some r ∧ (((rs.set j s).set (j + 1) r).set j r).set (j + 1) s = rs
  | [], _, _, _, h, _ => by cases h
  | [_], 0, _, _, _, h => by cases h
  | [_], _ + 1, _, _, h, _ => by cases h
  | x :: y :: t, 0, _, _, h1, h2 => by cases h1; cases h2; exact ⟨rfl, rfl, rfl⟩
  | x :: y :: t, j + 1, r, s, h1, h2 => by
    obtain ⟨a, b, e⟩ := swap_back (rs := y :: t) (j := j) h1 h2
    exact ⟨a, b, congrArg (x :: ·) e⟩
theorem put_get {α : Type} : ∀ {rs : List α} {j : Nat} {x : α}, j ≤ rs.length → (rs.take j ++ [x] ++ rs.drop j)[j]? = some x ∧ (rs.take j ++ [x] ++ rs.drop j).take j ++ (rs.take j ++ [x] ++ rs.drop j).drop (j + 1) = rs
  | rs, 0, x, _ => ⟨rfl, rfl⟩
  | [], j + 1, x, h => absurd h (by simp)
  | y :: t, j + 1, x, h => by
    obtain ⟨a, b⟩ := put_get (rs := t) (j := j) (x := x) (Nat.le_of_succ_le_succ h)
    exact ⟨a, congrArg (y :: ·) b⟩
theorem RowAt.kp {d g : Addr} {H H' : Hp} {p : Addr} {r : R} (D : Deal d g H) (k : Kp d g H H') (h : RowAt c H p r) : RowAt c H' p r := by
  obtain ⟨dx, e⟩ := h
  obtain ⟨m, ns, hd, hg, _⟩ := D
  exact ⟨dx, k _ _ e (ne_of e hd (by intro z; cases z)) (ne_of e hg (by intro z; cases z))⟩
theorem StackAt.kp {d g : Addr} {H H' : Hp} {p : Addr} {rs : List R} (D : Deal d g H) (k : Kp d g H H') (h : StackAt K c S H p rs) : StackAt K c S H' p rs := by
  obtain ⟨dx, a, ps, e, q, r, o, l⟩ := h
  refine ⟨dx, a, ps, ?_, ?_, Paired.mapP r fun _ _ => RowAt.kp D k, o, l⟩
  · obtain ⟨m, ns, hd, hg, _⟩ := D
    exact k _ _ e (ne_of e hd (by intro z; cases z)) (ne_of e hg (by intro z; cases z))
  · obtain ⟨m, ns, hd, hg, _⟩ := D
    rcases q with (q | ⟨o, q⟩) | q
    · exact .inl (.inl (k _ _ q (ne_of q hd (by intro z; cases z)) (ne_of q hg (by intro z; cases z))))
    · exact .inl (.inr ⟨o, k _ _ q (ne_of q hd (by intro z; cases z)) (ne_of q hg (by intro z; cases z))⟩)
    · exact .inr q
end
section
variable {P : Program} {w : World} {K : PySem.W.Frag} {mg : Str → Option Value} {base : Heap} {c : Cs} {gs ge : Addr} {S gsS geS glS : Addr}
/-- a method of stacks, as it is called -/
structure MethOk (P : Program) (w : World) (K : PySem.W.Frag) (mg : Str → Option Value) (base : Heap) (S : Addr) (x : Str) (ps : List Str) (sp : Sp) (f : Addr) (fd : FuncData) : Prop where
  m : Meth K S x f
  g : FnOk P w K mg base CX0 5 f fd ps sp
  b : Binds K fd ps []
abbrev nLaw9 : List Str := ["_law_script", "_law_base", "_law_deal", "_law_turn", "_law_told", "_law_made", "_law_fresh", "_law_row_here", "_law_at", "_law_due", "_law_cut", "_law_p", "_law_q", "_law_both"]
theorem sc_law9 : FnScope nLaw9 ["_law_script"] (defScope s_law) := ⟨rfl, rfl, rfl, by decide +kernel, rfl, by decide +kernel, by decide +kernel⟩
theorem ok_law9 {f fSo fDr fPi fRo fRs fTx fRt fI d0 pS fRd pR fR fWo fSw fPu fAd fIt : Addr} {fd dSo dDr dPi dRo dRs dTx dRt dI dRd dR dEq dsS deS dWo dSw dPu dAd dIt : FuncData} {mc mc' : Value} {cd : ClassData} (F : Fun K "law" "law" s_law f fd) (T : Txt' K mg c gs ge) (TS : TxtS K mg S gsS geS glS) (B : Bn mg) (hmax : mg "max" = none) (hmin : mg "min" = none)
    (So_ : Def P w K mg base 1 "_law_source" ["_law_script", "_law_base"] (spSource K) fSo dSo) (Dr : Def P w K mg base 1 "_law_draw" ["_law_deal", "_law_wide"] spDraw fDr dDr) (Pi : Def P w K mg base 2 "_law_pick" ["_law_deal", "_law_some"] spPick fPi dPi) (Ro : Def P w K mg base 3 "_law_row" ["_law_deal", "_law_sort"] spRow fRo dRo) (Rs : Def P w K mg base 4 "_law_rows" ["_law_deal", "_law_amount"] spRows fRs dRs)
    (Tx : Def P w K mg base 2 "_law_text" ["_law_rows_here"] spText fTx dTx) (Rt : Def P w K mg base 1 "_law_row_text" ["_law_row_here"] spRowText fRt dRt)
    (M : MakeS P w K mg base c S fI d0 dI) (RD : ReadS P w K mg base c S pS fRd dRd mc) (GR : ReadOk P w K mg base c pR fR dR mc')
    (GEq : FnOk P w K mg base CX0 5 ge dEq ["self", "other"] (spEq K c)) (bEq : Binds K dEq ["self", "other"] [])
    (GsS : FnOk P w K mg base CX0 5 gsS dsS ["self"] (spStrS K c S)) (bsS : Binds K dsS ["self"] []) (GeS : FnOk P w K mg base CX0 8 geS deS ["self", "other"] (spEqS K c S)) (beS : Binds K deS ["self", "other"] [])
    (Wo : MethOk P w K mg base S "without" ["self", "at"] (spWithout K c S) fWo dWo) (Sw : MethOk P w K mg base S "swapped" ["self", "at"] (spSwapped K c S) fSw dSw) (Pu : MethOk P w K mg base S "put" ["self", "at", "row"] (spPut K c S) fPu dPu)
    (GAd : FnOk P w K mg base CX0 5 fAd dAd ["self", "other"] (spAdd K c S)) (bAd : Binds K dAd ["self", "other"] []) (GIt : FnOk P w K mg base CX0 2 fIt dIt ["self", "at"] (spItem K c S)) (bIt : Binds K dIt ["self", "at"] [])
    (aSf : PySem.W.selfFirst K S = true) (aAd : PySem.W.findIn K (.ref S) "__add__" = some (some (.ref fAd))) (aAf : PySem.W.isFn K (.ref fAd) = true) (aCd : PySem.W.clsIn K S = some cd) (aMr : cd.mro = [.ref S, .type "object"]) (aIa : PySem.W.findIn K (.ref S) (PySem.dunderI "add") = some none)
    (aIt : PySem.W.findIn K (.ref S) "__getitem__" = some (some (.ref fIt))) (aIn : PySem.W.fnIn K fIt = true) (aIf : PySem.W.isFn K (.ref fIt) = true) :
    FnOk P w K mg base CX0 12 f fd ["_law_script"] (spLaw K) := by
  have RRd := RD.g.raw RD.b .nil
  have FR := GR.g.raw GR.b .nil
  have RsS := GsS.raw bsS .nil
  have ReS := GeS.raw beS .nil
  have ReR := GEq.raw bEq .nil
  have RAd := GAd.raw bAd .nil
  have RIt := GIt.raw bIt .nil
  refine F.ok sc_law9 (fun vs H Q E h => ?_) (fun cdv A outer s H vs Q E hr h => ?_)
  · obtain ⟨a, ns, rfl, _⟩ := h
    rfl
  · obtain ⟨a, ns, rfl, hS, hl, k⟩ := h
    have r1 := hr.mono (show 1 ≤ 11 by decide)
    have r2 := hr.mono (show 2 ≤ 11 by decide)
    have r3 := hr.mono (show 3 ≤ 11 by decide)
    have r4 := hr.mono (show 4 ≤ 11 by decide)
    have r5 := hr.mono (show 5 ≤ 11 by decide)
    have r6 := hr.mono (show 6 ≤ 11 by decide)
    have r6' := hr.mono (show 5 + 1 ≤ 11 by decide)
    have r8 := hr.mono (show 8 ≤ 11 by decide)
    have r9 := hr.mono (show 8 + 1 ≤ 11 by decide)
    have m4 := hr.mono (show 3 + 1 ≤ 11 by decide)
    have s7 := hr.mono (show 5 + 2 ≤ 11 by decide)
    have i3 := hr.mono (show 2 + 1 ≤ 11 by decide)
    refine ⟨_, (pss_cons (ps_for PassesOwn.never rfl (pi_range1 (by rfl) B.range_ (pa_cons (pe_callB (call_max2 rfl) (by rfl) hmax (by decide +kernel) (pa_cons pe_int (pa_cons (pe_callB (call_min2 rfl) (by rfl) hmin (by decide +kernel) (pa_cons pe_int (pa_cons (pe_callB call_len_seq (by rfl) B.len_ PySem.boot_len (pa_cons (pv 0) pa_nil)) pa_nil))) pa_nil))) pa_nil)) (pg_name (i := 1) sc_law9.nd rfl (Or.inl rfl))
      (pss_cons (ps_set (i := 2) sc_law9.nd rfl (Or.inl rfl) (pe_call So_.g r1 (by rfl) So_.m So_.kp So_.b .nil pass0 (pa_cons (pv 0) (pa_cons (pv 1) pa_nil))))
      (pss_one (ps_for PassesOwn.never rfl (pi_range1 (by rfl) B.range_ (pa_cons pe_int pa_nil)) (pg_name (i := 3) sc_law9.nd rfl (Or.inl rfl))
      (pss_cons (ps_set (i := 4) sc_law9.nd rfl (Or.inl rfl) (pe_call Rs.g r4 (by rfl) Rs.m Rs.kp Rs.b .nil pass0 (pa_cons (pv 2) (pa_cons (pe_call Dr.g r1 (by rfl) Dr.m Dr.kp Dr.b .nil pass0 (pa_cons (pv 2) (pa_cons pe_int pa_nil))) pa_nil))))
      (pss_cons (ps_par (i := 5) (j := 6) rfl sc_law9.nd rfl rfl (by decide) rfl rfl (pa_cons (ClX.pe_cmeth (pe_glob (v := .ref S) (by rfl) TS.mStack rfl) RD.cr RD.cm RRd r8 pass0 (pa_cons (pe_call Tx.g r2 (by rfl) Tx.m Tx.kp Tx.b .nil pass0 (pa_cons (pv 4) pa_nil)) pa_nil)) (pa_cons (pe_call Ro.g r3 (by rfl) Ro.m Ro.kp Ro.b .nil pass0 (pa_cons (pv 2) (pa_cons (pe_call Pi.g r2 (by rfl) Pi.m Pi.kp Pi.b .nil pass0 (pa_cons (pv 2) (pa_cons (pe_lst (pa_cons pe_str (pa_cons pe_str (pa_cons pe_str pa_nil)))) pa_nil))) pa_nil))) pa_nil)) (by rfl))
      (pss_cons (ps_set (i := 7) sc_law9.nd rfl (Or.inl rfl) (ClX.pe_cmeth (pe_glob (v := .ref c.row) (by rfl) T.mRow rfl) GR.cr GR.cm FR r6 pass0 (pa_cons (pe_call Rt.g r1 (by rfl) Rt.m Rt.kp Rt.b .nil pass0 (pa_cons (pv 6) pa_nil)) pa_nil)))
      (pss_cons (ps_for PassesOwn.never rfl (pi_range1 (by rfl) B.range_ (pa_cons (pe_callB call_len_seq (by rfl) B.len_ PySem.boot_len (pa_cons (pv 4) pa_nil)) pa_nil)) (pg_name (i := 8) sc_law9.nd rfl (Or.inl rfl))
      (pss_cons (ps_if (pt_cmpR (op_neOwn ReS r9 pass0) (pe_meth (pv 5) TS.own.cl Wo.m Wo.g r5 Wo.b .nil pass0 (pa_cons (pv 8) pa_nil)) (ClX.pe_cmeth (pe_glob (v := .ref S) (by rfl) TS.mStack rfl) RD.cr RD.cm RRd r8 pass0 (pa_cons (pe_call Tx.g r2 (by rfl) Tx.m Tx.kp Tx.b .nil pass0 (pa_cons (pe_op op_cat (pe_slice sl_list (pv 4) po_none (po_some (pv 8))) (pe_slice sl_list (pv 4) (po_some (pe_op op_add (pv 8) pe_int)) po_none)) pa_nil)) pa_nil)) (nomark _)) (pss_one (ps_ret pe_bl)) pss_nil)
      (pss_one (ps_if (pt_cmpR op_lt (pe_op op_add (pv 8) pe_int) (pe_callB call_len_seq (by rfl) B.len_ PySem.boot_len (pa_cons (pv 4) pa_nil)) (nomark _)) (pss_cons (ps_set (i := 9) sc_law9.nd rfl (Or.inl rfl) (pe_op op_cat (pe_op op_cat (pe_slice sl_list (pv 4) po_none (po_some (pv 8))) (pe_lst (pa_cons (pe_ix ix_list (pv 4) (pe_op op_add (pv 8) pe_int) (fun _ _ => rfl)) (pa_cons (pe_ix ix_list (pv 4) (pv 8) (fun _ _ => rfl)) pa_nil)))) (pe_slice sl_list (pv 4) (po_some (pe_op op_add (pv 8) pe_int)) po_none)))
      (pss_one (ps_if (PW.pt (pw_or (pt_cmpR op_ne (pe_callTy (T := "str") (call_strOwn RsS s7 pass0) (by rfl) B.str_ (by decide +kernel) (pa_cons (pe_meth (pv 5) TS.own.cl Sw.m Sw.g r5 Sw.b .nil pass0 (pa_cons (pv 8) pa_nil)) pa_nil)) (pe_call Tx.g r2 (by rfl) Tx.m Tx.kp Tx.b .nil pass0 (pa_cons (pv 9) pa_nil)) (nomark _))
      (pw_or1 (pt_cmpR (op_neOwn ReS r9 pass0) (pe_meth (pe_meth (pv 5) TS.own.cl Sw.m Sw.g r5 Sw.b .nil pass0 (pa_cons (pv 8) pa_nil)) TS.own.cl Sw.m Sw.g r5 Sw.b .nil pass0 (pa_cons (pv 8) pa_nil)) (pv 5) (nomark _))))) (pss_one (ps_ret pe_bl)) pss_nil))) pss_nil))))
      (pss_cons (ps_for PassesOwn.never rfl (pi_range1 (by rfl) B.range_ (pa_cons (pe_op op_add (pe_callB call_len_seq (by rfl) B.len_ PySem.boot_len (pa_cons (pv 4) pa_nil)) pe_int) pa_nil)) (pg_name (i := 8) sc_law9.nd rfl (Or.inl rfl))
      (pss_cons (ps_if (pt_cmpR op_ne (pe_callTy (T := "str") (call_strOwn RsS s7 pass0) (by rfl) B.str_ (by decide +kernel) (pa_cons (pe_meth (pv 5) TS.own.cl Pu.m Pu.g r5 Pu.b .nil pass0 (pa_cons (pv 8) (pa_cons (pv 7) pa_nil))) pa_nil)) (pe_call Tx.g r2 (by rfl) Tx.m Tx.kp Tx.b .nil pass0 (pa_cons (pe_op op_cat (pe_op op_cat (pe_slice sl_list (pv 4) po_none (po_some (pv 8))) (pe_lst (pa_cons (pv 6) pa_nil))) (pe_slice sl_list (pv 4) (po_some (pv 8)) po_none)) pa_nil)) (nomark _)) (pss_one (ps_ret pe_bl)) pss_nil)
      (pss_one (ps_if (PW.pt (pw_or (pt_cmpR (op_neOwn ReS r9 pass0) (pe_meth (pe_meth (pv 5) TS.own.cl Pu.m Pu.g r5 Pu.b .nil pass0 (pa_cons (pv 8) (pa_cons (pv 7) pa_nil))) TS.own.cl Wo.m Wo.g r5 Wo.b .nil pass0 (pa_cons (pv 8) pa_nil)) (pv 5) (nomark _))
      (pw_or1 (pt_cmpR (op_neOwn ReR r6' pass0) (pe_ixOwn RIt i3 pass0 (pe_meth (pv 5) TS.own.cl Pu.m Pu.g r5 Pu.b .nil pass0 (pa_cons (pv 8) (pa_cons (pv 7) pa_nil))) (pv 8) (fun _ _ => rfl)) (pv 7) (nomark _))))) (pss_one (ps_ret pe_bl)) pss_nil))))
      (pss_cons (ps_set (i := 10) sc_law9.nd rfl (Or.inl rfl) (pe_call Dr.g r1 (by rfl) Dr.m Dr.kp Dr.b .nil pass0 (pa_cons (pv 2) (pa_cons (pe_op op_add (pe_callB call_len_seq (by rfl) B.len_ PySem.boot_len (pa_cons (pv 4) pa_nil)) pe_int) pa_nil))))
      (pss_cons (ps_par (i := 11) (j := 12) rfl sc_law9.nd rfl rfl (by decide) rfl rfl (pa_cons (ClX.pe_cmeth (pe_glob (v := .ref S) (by rfl) TS.mStack rfl) RD.cr RD.cm RRd r8 pass0 (pa_cons (pe_call Tx.g r2 (by rfl) Tx.m Tx.kp Tx.b .nil pass0 (pa_cons (pe_slice sl_list (pv 4) po_none (po_some (pv 10))) pa_nil)) pa_nil)) (pa_cons (ClX.pe_cmeth (pe_glob (v := .ref S) (by rfl) TS.mStack rfl) RD.cr RD.cm RRd r8 pass0 (pa_cons (pe_call Tx.g r2 (by rfl) Tx.m Tx.kp Tx.b .nil pass0 (pa_cons (pe_slice sl_list (pv 4) (po_some (pv 10)) po_none) pa_nil)) pa_nil)) pa_nil)) (by rfl))
      (pss_cons (ps_set (i := 13) sc_law9.nd rfl (Or.inl rfl) (pv 11))
      (pss_cons (ps_aug (i := 13) sc_law9.nd rfl (Or.inl rfl) (pv 12) (ip_addOwn RAd r5 pass0))
      (pss_cons (ps_if (PW.pt (pw_or (pt_cmpR (op_neOwn ReS r9 pass0) (pe_op (op_addOwn RAd r5 pass0) (pv 11) (pv 12)) (pv 5) (nomark _))
      (pw_or (pt_cmpR (op_neOwn ReS r9 pass0) (pv 13) (pv 5) (nomark _))
      (pw_or (pt_cmpR op_ne (pe_callTy (T := "str") (call_strOwn RsS s7 pass0) (by rfl) B.str_ (by decide +kernel) (pa_cons (pv 11) pa_nil)) (pe_call Tx.g r2 (by rfl) Tx.m Tx.kp Tx.b .nil pass0 (pa_cons (pe_slice sl_list (pv 4) po_none (po_some (pv 10))) pa_nil)) (nomark _))
      (pw_or1 (pt_cmpR (op_neOwn ReS r9 pass0) (pe_op (op_addOwn RAd r5 pass0) (pv 11) (pe_make0 M.mkr M.g m4 (by rfl) TS.mStack M.b0 (.cons (show RelV (.ref d0) (.ref d0) from rfl) .nil) pass0)) (pv 11) (nomark _))))))) (pss_one (ps_ret pe_bl)) pss_nil)
      (pss_one (ps_if (PW.pt (pw_or (pt_cmpR op_ne (pe_callTy (T := "str") (call_strOwn RsS s7 pass0) (by rfl) B.str_ (by decide +kernel) (pa_cons (pv 5) pa_nil)) (pe_call Tx.g r2 (by rfl) Tx.m Tx.kp Tx.b .nil pass0 (pa_cons (pv 4) pa_nil)) (nomark _))
      (pw_or (pt_cmpR (op_neOwn ReS r9 pass0) (pe_op (op_addOwn RAd r5 pass0) (pe_make0 M.mkr M.g m4 (by rfl) TS.mStack M.b0 (.cons (show RelV (.ref d0) (.ref d0) from rfl) .nil) pass0) (pv 12)) (pv 12) (nomark _))
      (pw_or1 (pt_cmpR op_ne (pe_callTy (T := "str") (call_strOwn RsS s7 pass0) (by rfl) B.str_ (by decide +kernel) (pa_cons (pv 12) pa_nil)) (pe_call Tx.g r2 (by rfl) Tx.m Tx.kp Tx.b .nil pass0 (pa_cons (pe_slice sl_list (pv 4) (po_some (pv 10)) po_none) pa_nil)) (nomark _)))))) (pss_one (ps_ret pe_bl)) pss_nil))))))))))))))))
      (pss_one (ps_ret pe_bl))), ?_⟩
    refine ⟨_, rfl, a, _, rfl, .inl hS, _, _, rfl, _, _, rfl, _, rfl, ?b1, ?b2, ?go⟩
    case b1 => have z := base_rng (L := ((ns.map V.int).length : Nat)) (Int.natCast_nonneg _); omega
    case b2 => have z := base_rng (L := ((ns.map V.int).length : Nat)) (Int.natCast_nonneg _); omega
    case go =>
    have hb := base_rng (L := ((ns.map V.int).length : Nat)) (Int.natCast_nonneg _)
    generalize (if (if (((ns.map V.int).length : Nat) : Int) < 3 then (((ns.map V.int).length : Nat) : Int) else 3) > 1 then (if (((ns.map V.int).length : Nat) : Int) < 3 then (((ns.map V.int).length : Nat) : Int) else 3) else 1) = jj at hb ⊢
    refine for_range (lo := 0) (n := jj.toNat) (fun i σ G => (∃ v1 v2 v3 v4 v5 v6 v7 v8 v9 v10 v11 v12 v13, σ = [some (.ref a), v1, v2, v3, v4, v5, v6, v7, v8, v9, v10, v11, v12, v13]) ∧ Same H G) ⟨⟨_, _, _, _, _, _, _, _, _, _, _, _, _, rfl⟩, Same.refl _⟩ ?turn ?last
    case last =>
      rintro σ G ⟨⟨v1, v2, v3, v4, v5, v6, v7, v8, v9, v10, v11, v12, v13, rfl⟩, sG⟩
      exact k _
    case turn =>
      rintro i σ G hi ⟨⟨v1, v2, v3, v4, v5, v6, v7, v8, v9, v10, v11, v12, v13, rfl⟩, sG⟩
      rw [Int.zero_add]
      refine ⟨_, rfl, _, rfl, a, ns, i, rfl, sG.seq hS, hl, by omega, fun d g G1 s1 nd ng D1 => ?_⟩
      refine ⟨4, rfl, by decide, by decide, ?_⟩
      refine for_range (lo := 0) (n := 4) (fun t σ G2 => (∃ v3 v4 v5 v6 v7 v8 v9 v10 v11 v12 v13, σ = [some (.ref a), some (.int i), some (.ref d), v3, v4, v5, v6, v7, v8, v9, v10, v11, v12, v13]) ∧ Deal d g G2 ∧ Same G G2) ⟨⟨_, _, _, _, _, _, _, _, _, _, _, rfl⟩, D1, s1⟩ ?inner ?out
      case out =>
        rintro σ G2 ⟨⟨v3, v4, v5, v6, v7, v8, v9, v10, v11, v12, v13, rfl⟩, D2, s2⟩
        exact ⟨⟨_, _, _, _, _, _, _, _, _, _, _, _, _, rfl⟩, sG.trans s2⟩
      case inner =>
        rintro t σ G2 ht ⟨⟨v3, v4, v5, v6, v7, v8, v9, v10, v11, v12, v13, rfl⟩, D2, s2⟩
        unfold tNoPart
        refine ⟨_, rfl, _, rfl, d, g, 6, rfl, by decide, by decide, D2, fun v G3 v0 vw D3 k3 => ?_⟩
        obtain ⟨n, rfl⟩ : ∃ n : Nat, v = n := ⟨v.toNat, by omega⟩
        refine ⟨d, g, n, rfl, by omega, D3, fun l ts rs G4 el hT hlen nl D4 k4 => ?_⟩
        have hok := TupsAt.okAll hT
        have htl : ts.length = rs.length := Paired.length hT
        have hr5 : rs.length ≤ 5 := by omega
        have nld : l ≠ d := D4.nd el
        have nlg : l ≠ g := fun z => by
          obtain ⟨_, _, _, q, _⟩ := D3
          rw [← z, nl] at q; cases q
        have sGof : ∀ {Gx Gy : Hp}, Same G Gx → Kp d g Gx Gy → Same G Gy := fun {Gx Gy} sx kx b o e => by
          have hbd : b ≠ d := fun z => by rw [z, nd] at e; cases e
          have hbg : b ≠ g := fun z => by rw [z, ng] at e; cases e
          exact kx b o (sx _ _ e) hbd hbg
        have sG4 : Same G G4 := sGof (sGof s2 k3) k4
        -- the stack, then a row more
        refine ⟨rfl, _, rfl, l, ts, rs, rfl, el, hT, by omega, fun G5 s5 => ⟨rs, rfl, hok, by omega, fun p G6 s6 np hSt => ?_⟩⟩
        have D6 := D4.same (s5.trans s6)
        have el6 := (s5.trans s6) _ _ el
        refine ⟨_, rfl, _, rfl, by show 3 ≤ sizeLine; decide, fun a3 ha3 => pick_new D6 ha3 (by decide) (by decide) fun x G7 hx D7 k7 => ?_⟩
        obtain ⟨so, rfl⟩ : ∃ so : So, x = .str so.s := by
          rcases List.mem_cons.mp hx with rfl | hx
          · exact ⟨.limit, rfl⟩
          rcases List.mem_cons.mp hx with rfl | hx
          · exact ⟨.soft, rfl⟩
          rw [List.mem_singleton.mp hx]
          exact ⟨.count, rfl⟩
        refine ⟨d, g, so, rfl, D7, fun ft fr G8 _ frok eft nft D8 k8 => ?_⟩
        have hSt8 := (hSt.kp D6 k7).kp D7 k8
        have el8 := k8 _ _ (k7 _ _ el6 nld nlg) nld nlg
        have hT8 := ((hT.same (s5.trans s6)).kp D6 k7).kp D7 k8
        have sG8 : Same G G8 := sGof (sGof ((sG4.trans s5).trans s6) k7) k8
        refine ⟨_, _, rfl, ?_⟩
        refine ⟨rfl, _, rfl, ft, fr, rfl, ⟨eft, frok⟩, fun G9 s9 => ⟨_, fr, rfl, frok, fun rq GA sA hq => ?_⟩⟩
        have s8A : Same G8 GA := s9.trans sA
        have hStA := hSt8.same s8A
        have elA := s8A _ _ el8
        have hTA := hT8.same s8A
        have eftA := s8A _ _ eft
        have DA := D8.same s8A
        have sGA := sG8.trans s8A
        have htm : (ts.map V.ref).length = rs.length := by rw [List.length_map, htl]
        refine ⟨_, rfl, l, _, rfl, .inl (SqL.of elA), _, rfl, by omega, by omega, ?_⟩
        refine for_range (lo := 0) (n := (((ts.map V.ref).length : Nat) : Int).toNat) (fun j σ Gx => (∃ v3 v8 v9 v10 v11 v12 v13, σ = [some (.ref a), some (.int i), some (.ref d), v3, some (.ref l), some (.ref p), some (.ref ft), some (.ref rq), v8, v9, v10, v11, v12, v13]) ∧ Same GA Gx) ⟨⟨_, _, _, _, _, _, _, rfl⟩, Same.refl _⟩ ?one ?two
        case one =>
          rintro j σ Gx hj ⟨⟨w3, w8, w9, w10, w11, w12, w13, rfl⟩, sx⟩
          rw [Int.zero_add]
          have hj' : j < rs.length := by omega
          have hStx := hStA.same sx
          have elx := sx _ _ elA
          have hTx := hTA.same sx
          obtain ⟨dx, a1, ps1, hp1, _⟩ := id hStx
          refine ⟨_, rfl, p, dx, _, rfl, hp1, fStack_no a1 (by decide +kernel), _, rfl, p, rs, j, rfl, hStx, hj', fun q1 H1 t1 hS1 => ?_⟩
          refine ⟨rfl, _, rfl, _, rfl, _, rfl, ?_⟩
          refine sl_to (t1 _ _ elx) fun b1 H2 t2 eb1 => ?_
          refine ⟨_, rfl, _, rfl, _, _, rfl, rfl, _, rfl, ?_⟩
          refine sl_from (n := j + 1) ((t1.trans t2) _ _ elx) (by omega) fun b2 H3 t3 eb2 => ?_
          refine cat_go (t3 _ _ eb1) eb2 (by rw [List.length_take, List.length_drop]; omega) fun b3 H4 t4 eb3 => ?_
          have t14 : Same Gx H4 := ((t1.trans t2).trans t3).trans t4
          have hTc := pair_app (pair_take j (hTx.same t14)) (pair_drop (j + 1) (hTx.same t14))
          have hzc : (rs.take j ++ rs.drop (j + 1)).length ≤ 100 := by rw [List.length_append, List.length_take, List.length_drop]; omega
          refine ⟨b3, _, _, rfl, eb3, hTc, hzc, fun H5 t5 => ?_⟩
          refine ⟨_, rfl, TupsAt.okAll hTc, hzc, fun q2 H6 t6 _ hS2 => ?_⟩
          refine neS_go TS (hS1.same ((((t2.trans t3).trans t4).trans t5).trans t6)) hS2 fun H7 t7 => iteF ?_
          have sx7 : Same Gx H7 := ((t14.trans t5).trans t6).trans t7
          have hStx7 := hStx.same sx7
          have elx7 := sx7 _ _ elx
          have hTx7 := hTx.same sx7
          -- the next one
          refine ⟨_, rfl, _, _, rfl, rfl, _, rfl, l, _, rfl, .inl (SqL.of elx7), _, _, rfl, rfl, _, rfl, ?_⟩
          by_cases hjj : j + 1 < rs.length
          · have e : decide (((j : Nat) : Int) + 1 < (((ts.map V.ref).length : Nat) : Int)) = true := decide_eq_true (by omega)
            rw [e]
            refine iteT ?_
            obtain ⟨r, hr'⟩ : ∃ r, rs[j]? = some r := ⟨_, List.getElem?_eq_getElem hj'⟩
            obtain ⟨s', hs'⟩ : ∃ s', rs[j + 1]? = some s' := ⟨_, List.getElem?_eq_getElem hjj⟩
            obtain ⟨ta, eta, hta⟩ := pair_get' hTx7 hr'
            obtain ⟨tb, etb, htb⟩ := pair_get' hTx7 hs'
            have ma : (ts.map V.ref)[j]? = some (.ref ta) := by rw [List.getElem?_map, eta]; rfl
            have mb : (ts.map V.ref)[j + 1]? = some (.ref tb) := by rw [List.getElem?_map, etb]; rfl
            have ej : ((j : Nat) : Int) + 1 = ((j + 1 : Nat) : Int) := by omega
            refine ⟨_, rfl, _, rfl, _, rfl, ?_⟩
            refine sl_to elx7 fun b4 H8 u1 eb4 => ?_
            refine ⟨_, rfl, _, rfl, _, _, rfl, rfl, l, _, _, .ref tb, rfl, rfl, SqL.of (u1 _ _ elx7), by rw [ej]; exact atI_nat mb, ?_⟩
            refine ⟨_, rfl, _, rfl, l, _, _, .ref ta, rfl, rfl, SqL.of (u1 _ _ elx7), atI_nat ma, ?_⟩
            refine ⟨by show 2 ≤ sizeLine; decide, fun b5 hb5 => ?_⟩
            have u2 : Same H8 (upd H8 b5 (.lst [V.ref tb, V.ref ta])) := same_new hb5
            refine cat_go (ys := [tb, ta]) (u2 _ _ eb4) upd_same (by rw [List.length_take]; show _ + 2 ≤ _; omega) fun b6 H9 u3 eb6 => ?_
            have u13 := (u1.trans u2).trans u3
            refine ⟨_, rfl, _, rfl, _, _, rfl, rfl, _, rfl, ?_⟩
            refine sl_from (n := j + 2) (u13 _ _ elx7) (by omega) fun b7 HA u4 eb7 => ?_
            refine cat_go (u4 _ _ eb6) eb7 (by rw [List.length_append, List.length_take, List.length_drop]; show _ + 2 + _ ≤ _; omega) fun b8 HB u5 eb8 => ?_
            have u15 := (u13.trans u4).trans u5
            have hStB := hStx7.same u15
            obtain ⟨dB, aB, psB, hpB, _⟩ := id hStB
            have hTd := pair_app (pair_app (pair_take j (hTx7.same u15)) (.cons ⟨u15 _ _ htb.1, htb.2⟩ (.cons ⟨u15 _ _ hta.1, hta.2⟩ .nil))) (pair_drop (j + 2) (hTx7.same u15))
            have hzd : (rs.take j ++ [s', r] ++ rs.drop (j + 2)).length ≤ 100 := by rw [List.length_append, List.length_append, List.length_take, List.length_drop]; show _ + 2 + _ ≤ _; omega
            -- swapped, its text
            refine ⟨_, rfl, p, dB, _, rfl, hpB, fStack_no aB (by decide +kernel), _, rfl, p, rs, r, s', j, rfl, hStB, hr', hs', fun q3 HC u6 hS3 => ?_⟩
            refine strS_go TS hS3 fun HD u7 => ?_
            refine ⟨_, rfl, b8, _, _, rfl, (u6.trans u7) _ _ eb8, TupsAt.same (u6.trans u7) hTd, hzd, fun HE u8 => ?_⟩
            rw [swap_eq hr' hs']
            refine ne_go (iteF ?_)
            -- twice
            have u68 := (u6.trans u7).trans u8
            have hStE := hStB.same u68
            obtain ⟨dE, aE, psE, hpE, _⟩ := id hStE
            obtain ⟨w1, w2, w3'⟩ := swap_back hr' hs'
            refine ⟨_, rfl, p, dE, _, rfl, hpE, fStack_no aE (by decide +kernel), _, rfl, p, rs, r, s', j, rfl, hStE, hr', hs', fun q4 HF u9 hS4 => ?_⟩
            obtain ⟨dF, aF, psF, hpF, _⟩ := id hS4
            refine ⟨q4, dF, _, rfl, hpF, fStack_no aF (by decide +kernel), _, rfl, q4, _, s', r, j, rfl, hS4, w1, w2, fun q5 HG u10 hS5 => ?_⟩
            rw [w3'] at hS5
            refine ⟨_, rfl, neS_go TS hS5 (hStE.same (u9.trans u10)) fun HH u11 => iteF ?_⟩
            exact ⟨⟨_, _, _, _, _, _, _, rfl⟩, sx.trans (sx7.trans (u15.trans (u68.trans ((u9.trans u10).trans u11))))⟩
          · have e : decide (((j : Nat) : Int) + 1 < (((ts.map V.ref).length : Nat) : Int)) = false := decide_eq_false (by omega)
            rw [e]
            refine iteF ?_
            exact ⟨⟨_, _, _, _, _, _, _, rfl⟩, sx.trans sx7⟩
        case two =>
          rintro σ Gx ⟨⟨w3, w8, w9, w10, w11, w12, w13, rfl⟩, sx⟩
          have hSt0 := hStA.same sx
          have el0 := sx _ _ elA
          have hT0 := hTA.same sx
          have eft0 := sx _ _ eftA
          have hq0 := hq.same sx
          have D0 := DA.same sx
          have sG0 := sGA.trans sx
          refine ⟨_, rfl, l, _, rfl, .inl (SqL.of el0), _, _, rfl, rfl, _, rfl, by omega, by omega, ?_⟩
          refine for_range (lo := 0) (n := ((((ts.map V.ref).length : Nat) : Int) + 1).toNat) (fun j σ Gy => (∃ v3 v8 v9 v10 v11 v12 v13, σ = [some (.ref a), some (.int i), some (.ref d), v3, some (.ref l), some (.ref p), some (.ref ft), some (.ref rq), v8, v9, v10, v11, v12, v13]) ∧ Same Gx Gy) ⟨⟨_, _, _, _, _, _, _, rfl⟩, Same.refl _⟩ ?put ?rest
          case put =>
            rintro j σ Gy hj ⟨⟨y3, y8, y9, y10, y11, y12, y13, rfl⟩, sy⟩
            rw [Int.zero_add]
            have hj' : j ≤ rs.length := by omega
            have hSty := hSt0.same sy
            have ely := sy _ _ el0
            have hTy := hT0.same sy
            have hqy := hq0.same sy
            have efty := sy _ _ eft0
            have hpg := put_get (x := fr) hj'
            obtain ⟨dy, ay, psy, hpy, _⟩ := id hSty
            refine ⟨_, rfl, p, dy, _, rfl, hpy, fStack_no ay (by decide +kernel), _, rfl, _, rfl, p, rq, rs, fr, j, rfl, hSty, hqy, frok, hj', by omega, fun q1 H1 t1 hS1 => ?_⟩
            refine strS_go TS hS1 fun H2 t2 => ?_
            have t12 := t1.trans t2
            refine ⟨_, rfl, _, rfl, _, rfl, ?_⟩
            refine sl_to (t12 _ _ ely) fun b1 H3 t3 eb1 => ?_
            refine ⟨_, rfl, by show 1 ≤ sizeLine; decide, fun b2 hb2 => ?_⟩
            have t4 : Same H3 (upd H3 b2 (.lst [V.ref ft])) := same_new hb2
            refine cat_go (ys := [ft]) (t4 _ _ eb1) upd_same (by rw [List.length_take]; show _ + 1 ≤ _; omega) fun b3 H4 t5 eb3 => ?_
            have t15 := ((t12.trans t3).trans t4).trans t5
            refine ⟨_, rfl, _, rfl, _, rfl, ?_⟩
            refine sl_from (n := j) (t15 _ _ ely) rfl fun b4 H5 t6 eb4 => ?_
            refine cat_go (t6 _ _ eb3) eb4 (by rw [List.length_append, List.length_take, List.length_drop]; show _ + 1 + _ ≤ _; omega) fun b5 H6 t7 eb5 => ?_
            have t17 := (t15.trans t6).trans t7
            have hTp := pair_app (pair_app (pair_take j (hTy.same t17)) (.cons ⟨t17 _ _ efty, frok⟩ .nil)) (pair_drop j (hTy.same t17))
            have hzp : (rs.take j ++ [fr] ++ rs.drop j).length ≤ 100 := by rw [List.length_append, List.length_append, List.length_take, List.length_drop]; show _ + 1 + _ ≤ _; omega
            refine ⟨b5, _, _, rfl, eb5, hTp, hzp, fun H7 t8 => ?_⟩
            refine ne_go (iteF ?_)
            have t18 := t17.trans t8
            have hSt7 := hSty.same t18
            have hq7 := hqy.same t18
            obtain ⟨d7, a7, ps7, hp7, _⟩ := id hSt7
            refine ⟨_, rfl, p, d7, _, rfl, hp7, fStack_no a7 (by decide +kernel), _, rfl, _, rfl, p, rq, rs, fr, j, rfl, hSt7, hq7, frok, hj', by omega, fun q2 H8 t9 hS2 => ?_⟩
            obtain ⟨d8, a8, ps8, hp8, _⟩ := id hS2
            refine ⟨q2, d8, _, rfl, hp8, fStack_no a8 (by decide +kernel), _, rfl, q2, _, j, rfl, hS2, by rw [List.length_append, List.length_append, List.length_take, List.length_drop]; show j < _ + 1 + _; omega, fun q3 H9 t10 hS3 => ?_⟩
            rw [hpg.2] at hS3
            refine ⟨_, rfl, neS_go TS hS3 (hSt7.same (t9.trans t10)) fun HA t11 => iteF ?_⟩
            have t711 := (t9.trans t10).trans t11
            have hStA' := hSt7.same t711
            have hqA := hq7.same t711
            obtain ⟨dA, aA, psA, hpA, _⟩ := id hStA'
            refine ⟨_, rfl, p, dA, _, rfl, hpA, fStack_no aA (by decide +kernel), _, rfl, _, rfl, p, rq, rs, fr, j, rfl, hStA', hqA, frok, hj', by omega, fun q4 HB t12' hS4 => ?_⟩
            obtain ⟨dB, aB, psB, hpB, _⟩ := id hS4
            refine ⟨_, rfl, q4, S, dB, _, rfl, hpB, aIt, aIn, aIf, q4, _, fr, j, rfl, hS4, hpg.1, fun rq2 hrow _ => ?_⟩
            refine ⟨_, rfl, neR_go T frok hrow (hqA.same t12') fun HC t13 => iteF ?_⟩
            exact ⟨⟨_, _, _, _, _, _, _, rfl⟩, sy.trans (t18.trans (t711.trans (t12'.trans t13)))⟩
          case rest =>
            rintro σ Gy ⟨⟨y3, y8, y9, y10, y11, y12, y13, rfl⟩, sy⟩
            have Dy := D0.same sy
            have ely := sy _ _ el0
            refine ⟨_, rfl, _, rfl, l, _, rfl, .inl (SqL.of ely), _, _, rfl, rfl, d, g, _, rfl, by omega, by omega, Dy, fun v Gz z0 z1 Dz kz => ?_⟩
            obtain ⟨cn, rfl⟩ : ∃ cn : Nat, v = cn := ⟨v.toNat, by omega⟩
            have hcn : cn ≤ rs.length := by omega
            have elz := kz _ _ ely nld nlg
            have hTz := TupsAt.kp Dy kz (hT0.same sy)
            have hStz := (hSt0.same sy).kp Dy kz
            have sGz : Same G Gz := sGof (sG0.trans sy) kz
            have hz1 : (rs.take cn).length ≤ 100 := by rw [List.length_take]; omega
            have hz2 : (rs.drop cn).length ≤ 100 := by rw [List.length_drop]; omega
            have hz3 : (rs.take cn).length + (rs.drop cn).length ≤ 100 := by rw [List.length_take, List.length_drop]; omega
            refine ⟨rfl, _, rfl, _, rfl, _, rfl, ?_⟩
            refine sl_to elz fun b1 H1 t1 eb1 => ?_
            refine ⟨b1, _, _, rfl, eb1, pair_take cn (hTz.same t1), hz1, fun H2 t2 => ⟨_, rfl, ok_take hok, hz1, fun pP H3 t3 _ hP => ?_⟩⟩
            have t13 := (t1.trans t2).trans t3
            refine ⟨rfl, _, rfl, _, rfl, _, rfl, ?_⟩
            refine sl_from (n := cn) (t13 _ _ elz) rfl fun b2 H4 t4 eb2 => ?_
            refine ⟨b2, _, _, rfl, eb2, pair_drop cn (hTz.same (t13.trans t4)), hz2, fun H5 t5 => ⟨_, rfl, ok_drop hok, hz2, fun pQ H6 t6 _ hQ => ?_⟩⟩
            have t46 := (t4.trans t5).trans t6
            have t16 := t13.trans t46
            refine ⟨_, _, rfl, ?_⟩
            refine ⟨_, rfl, ?_⟩
            have hP6 := hP.same t46
            obtain ⟨dP, aP, psP, eP, _⟩ := id hP6
            obtain ⟨dQ, aQ, psQ, eQ, _⟩ := id hQ
            refine ⟨_, rfl, _, rfl, pP, pQ, S, dP, _, dQ, _, cd, rfl, rfl, eP, eQ, aCd, aMr, aIa, aAd, aAf, pP, pQ, _, _, rfl, hP6, hQ, hz3, fun pB H7 t7 hB => ⟨⟨pB, rfl⟩, ?_⟩⟩
            rw [List.take_append_drop] at hB
            have hP7 := hP6.same t7
            have hQ7 := hQ.same t7
            have t17 := t16.trans t7
            have hSt7 := hStz.same t17
            obtain ⟨eP_, eaP, epP, eP7, _⟩ := id hP7
            obtain ⟨eQ_, eaQ, epQ, eQ7, _⟩ := id hQ7
            refine ⟨_, rfl, _, rfl, pP, pQ, S, eP_, _, eQ_, _, rfl, rfl, eP7, eQ7, aSf, aAd, aAf, pP, pQ, _, _, rfl, hP7, hQ7, hz3, fun x1 H8 t8 h8 => ⟨⟨x1, rfl⟩, ?_⟩⟩
            rw [List.take_append_drop] at h8
            refine ⟨_, rfl, neS_go TS h8 (hSt7.same t8) fun H9 t9 => iteF ?_⟩
            have t79 := t8.trans t9
            refine ⟨_, rfl, _, rfl, neS_go TS (hB.same t79) (hSt7.same t79) fun HA tA => iteF ?_⟩
            have t7A := t79.trans tA
            refine ⟨_, rfl, strS_go TS (hP7.same t7A) fun HB tB => ?_⟩
            have t1B := t17.trans (t7A.trans tB)
            refine ⟨_, rfl, _, rfl, _, rfl, ?_⟩
            refine sl_to (t1B _ _ elz) fun b3 HC tC eb3 => ?_
            refine ⟨b3, _, _, rfl, eb3, pair_take cn (hTz.same (t1B.trans tC)), hz1, fun HD tD => ?_⟩
            refine ne_go (iteF ?_)
            have t7D := ((t7A.trans tB).trans tC).trans tD
            have hPD := hP7.same t7D
            refine ⟨_, rfl, ?_⟩
            refine fun x2 dx2 nx2 ndx2 ne2 => made_at' (ps := []) (rs := []) (.inr (M.k0 HD)) .nil (fun r h => nomatch h) (Nat.zero_le _) nx2 ndx2 fun HE tE hE => ⟨rfl, ?_⟩
            have hPE := hPD.same tE
            obtain ⟨fP, faP, fpP, ePE, _⟩ := id hPE
            obtain ⟨fE, faE, fpE, eEE, _⟩ := id hE
            refine ⟨pP, x2, S, fP, _, fE, _, rfl, rfl, ePE, eEE, aSf, aAd, aAf, pP, x2, _, [], rfl, hPE, hE, hz1, fun x3 HF tF hF => ⟨⟨x3, rfl⟩, ?_⟩⟩
            rw [List.append_nil] at hF
            refine ⟨_, rfl, neS_go TS hF (hPE.same tF) fun HG tG => iteF ?_⟩
            have t7G := ((t7D.trans tE).trans tF).trans tG
            -- the elder ones stay
            have t1G := t17.trans t7G
            refine ⟨_, rfl, strS_go TS (hSt7.same t7G) fun HH tH => ?_⟩
            have t1H := t1G.trans tH
            refine ⟨_, rfl, l, ts, rs, rfl, t1H _ _ elz, hTz.same t1H, by omega, fun HI tI => ne_go (iteF ?_)⟩
            have t1I := t1H.trans tI
            have t7I := (t7G.trans tH).trans tI
            refine fun x4 dx4 nx4 ndx4 ne4 => made_at' (ps := []) (rs := []) (.inr (M.k0 HI)) .nil (fun r h => nomatch h) (Nat.zero_le _) nx4 ndx4 fun HJ tJ hJ => ⟨rfl, ?_⟩
            have hQJ := hQ7.same (t7I.trans tJ)
            obtain ⟨gQ, gaQ, gpQ, eQJ, _⟩ := id hQJ
            obtain ⟨gE, gaE, gpE, eEJ, _⟩ := id hJ
            refine ⟨_, rfl, x4, pQ, S, gE, _, gQ, _, rfl, rfl, eEJ, eQJ, aSf, aAd, aAf, x4, pQ, [], _, rfl, hJ, hQJ, by show 0 + _ ≤ 100; omega, fun x5 HK tK hK => ⟨⟨x5, rfl⟩, ?_⟩⟩
            rw [List.nil_append] at hK
            refine ⟨_, rfl, neS_go TS hK (hQJ.same tK) fun HL tL => iteF ?_⟩
            have tJL := (tJ.trans tK).trans tL
            refine ⟨_, rfl, strS_go TS (hQ7.same (t7I.trans tJL)) fun HM tM => ?_⟩
            have t1M := (t1I.trans tJL).trans tM
            refine ⟨_, rfl, _, rfl, _, rfl, ?_⟩
            refine sl_from (n := cn) (t1M _ _ elz) rfl fun b4 HN tN eb4 => ?_
            refine ⟨b4, _, _, rfl, eb4, pair_drop cn (hTz.same (t1M.trans tN)), hz2, fun HO' tO => ?_⟩
            refine ne_go (iteF ?_)
            have tz := (t1M.trans tN).trans tO
            exact ⟨⟨_, _, _, _, _, _, _, _, _, _, _, rfl⟩, Dz.same tz, sGz.trans tz⟩
end
end Ow
end
section
namespace Ow
open PySem L2 Own
section
open PySem.W (mg_of mg_none_of)
theorem kit_own {K : PySem.W.Frag} {t : Value} {C : Addr} {b : Bool} (h1 : PySem.W.isClsIn K C = true) (h2 : PySem.W.typeIn K (.ref C) = some (.type "type")) (h3 : PySem.W.subIn K t (.ref C) = some b) (h0 : (t == .ref C) = false ∨ b = true) : PySem.W.kitOne K t (.ref C) = some b := by
  unfold PySem.W.kitOne
  split
  · rename_i e
    rcases h0 with h0 | h0
    · rw [h0] at e; cases e
    · rw [h0]
  · have e : ((PySem.W.clsIn K C).isSome && PySem.W.typeIn K (.ref C) == some (.type "type")) = true := by
      have h1' : (PySem.W.clsIn K C).isSome = true := h1
      rw [h1', h2]; rfl
    show (if ((PySem.W.clsIn K C).isSome && PySem.W.typeIn K (.ref C) == some (.type "type")) = true then PySem.W.subIn K t (.ref C) else none) = some b
    rw [if_pos e]
    exact h3
theorem KTup.of {K : PySem.W.Frag} {a : Addr} {xs : List V} {its : List Value} {n : Nat} {od : Option Addr} {sl : Array (Option Value)} (l : K.lookup a = some ⟨.type "tuple", od, .seq its.toArray n, sl⟩) (hz : its.length ≤ 1000) (r : Vals xs its) : KTup K a xs := fun H =>
  .inr ⟨_, its.toArray, n, l, rfl, rfl, by rw [List.size_toArray]; exact small_len hz, r⟩
theorem fund_mk {K : PySem.W.Frag} {x qual : Str} {params : Arguments} {body : List Stmt} {scope : Scope} {dvs : List V} {f T : Addr} {oc kV doc pm cd ct tc : Value} {od an td : Option Addr} {osl tsl : Array (Option Value)} {its : List Value} {n : Nat}
    (l : K.lookup f = some ⟨oc, od, .func (PySem.W.fnOf x qual params body scope (.ref T) kV doc pm an cd ct), osl⟩) (c : PySem.W.codeIn K cd qual = true) (t : K.lookup T = some ⟨tc, td, .seq its.toArray n, tsl⟩) (v : Vals dvs its) (hd : dvs ≠ []) (k : PySem.W.keepIn K (.ref f) = true) :
    FunD K x qual params body scope dvs [] f (PySem.W.fnOf x qual params body scope (.ref T) kV doc pm an cd ct) :=
  ⟨⟨oc, od, .ref T, kV, doc, pm, an, cd, ct, osl, rfl, l, c, .inr ⟨hd, T, _, its, n, rfl, t, rfl, v⟩, .inl rfl⟩, k⟩
theorem cmet_mk {K : PySem.W.Frag} {C p g : Addr} {mc : Value} {m : Str} {rest : List Value} (h1 : PySem.W.findCls K (.ref C) mc m = some (.get (.builtin "classmethod.__get__") (.ref p) .none (.ref C))) (h2 : PySem.W.recIn K p "classmethod" = some (.ref g :: rest)) (h3 : PySem.W.fnIn K g = true) : ClX.CMet K C mc m p g := ⟨h1, ⟨rest, h2⟩, h3⟩
theorem all_mk {P : Program} {w : World} {K : PySem.W.Frag} {h : Heap} {mg : Str → Option Value} {fa : Addr} (X : K.In h) (G : h.Ns mainGlobals mg) (hfa : mg "law" = some (.ref fa))
    {row keep tries limit leave soft count lend gs ge fKeep fTries fLimit fSoft kKept kLives kAsked kMTries kFaults wKeep wTries wLimit wLeave wSoft wCount wLend pRead fRead fInt fOne fChk fEvery S gsS geS glS fInit d0 pReadS fReadS fWo fSw fPu fAd fIt fSeq fOf fIn fIx fEx fSo fDr fPi fMx fRo fRs fRt fTx fLaw : Addr} {dKeep dTries dLimit dSoft dwKeep dwTries dwLimit dwLeave dwSoft dwCount dwLend dStr dEq dRead dInt dOne dChk dEvery dInit dsS deS dWo dSw dPu dAd dIt dReadS dSeq dOf dIn dIx dEx dSo dDr dPi dMx dRo dRs dRt dTx dLaw : FuncData} {tk10 : Tok} {tk11 : Tok} {on1 : Nat} {oo1 : Option Addr} {os1 : Array (Option Value)} {tk20 : Tok} {tk21 : Tok} {tk22 : Tok} {tk23 : Tok} {on2 : Nat} {oo2 : Option Addr} {os2 : Array (Option Value)} {tk30 : Tok} {tk31 : Tok} {tk32 : Tok} {on3 : Nat} {oo3 : Option Addr} {os3 : Array (Option Value)} {tk40 : Tok} {tk41 : Tok} {tk42 : Tok} {tk43 : Tok} {tk44 : Tok} {tk45 : Tok} {on4 : Nat} {oo4 : Option Addr} {os4 : Array (Option Value)} {tk50 : Tok} {tk51 : Tok} {on5 : Nat} {oo5 : Option Addr} {os5 : Array (Option Value)} {on0 : Nat} {oo0 : Option Addr} {os0 : Array (Option Value)} {cd : ClassData}
    (aRow : PySem.W.nsIn K mainGlobals "Row" = some (some (.ref row)))
    (aKeep : PySem.W.nsIn K mainGlobals "Keep" = some (some (.ref keep)))
    (aTries : PySem.W.nsIn K mainGlobals "Tries" = some (some (.ref tries)))
    (aLimit : PySem.W.nsIn K mainGlobals "Limit" = some (some (.ref limit)))
    (aLeave : PySem.W.nsIn K mainGlobals "Leave" = some (some (.ref leave)))
    (aSoft : PySem.W.nsIn K mainGlobals "Soft" = some (some (.ref soft)))
    (aCount : PySem.W.nsIn K mainGlobals "Count" = some (some (.ref count)))
    (aLend : PySem.W.nsIn K mainGlobals "Lend" = some (some (.ref lend)))
    (oKeep : OwnC K keep gs ge)
    (oTries : OwnC K tries gs ge)
    (oLimit : OwnC K limit gs ge)
    (oLeave : OwnC K leave gs ge)
    (oSoft : OwnC K soft gs ge)
    (oCount : OwnC K count gs ge)
    (oLend : OwnC K lend gs ge)
    (sKeep : PySem.W.subIn K (.ref keep) (.ref row) = some true)
    (sTries : PySem.W.subIn K (.ref tries) (.ref row) = some true)
    (sLimit : PySem.W.subIn K (.ref limit) (.ref row) = some true)
    (sLeave : PySem.W.subIn K (.ref leave) (.ref row) = some true)
    (sSoft : PySem.W.subIn K (.ref soft) (.ref row) = some true)
    (sCount : PySem.W.subIn K (.ref count) (.ref row) = some true)
    (sLend : PySem.W.subIn K (.ref lend) (.ref row) = some true)
    (iRow : PySem.W.isClsIn K row = true)
    (tRow : PySem.W.typeIn K (.ref row) = some (.type "type"))
    (nW : PySem.W.findIn K (.ref keep) "what" = some none)
    (nL : PySem.W.findIn K (.ref keep) "life" = some none)
    (tM : PySem.W.findIn K (.ref tries) "many" = some none)
    (tO : PySem.W.findIn K (.ref tries) "on" = some none)
    (lM : PySem.W.findIn K (.ref limit) "many" = some none)
    (sO : PySem.W.findIn K (.ref soft) "on" = some none)
    (mKeep : Mk K keep fKeep)
    (mTries : Mk K tries fTries)
    (mLimit : Mk K limit fLimit)
    (mSoft : Mk K soft fSoft)
    (mLeave : MkO K leave)
    (mCount : MkO K count)
    (mLend : MkO K lend)
    (aKept : PySem.W.nsIn K mainGlobals "KEPT_ANSWERS" = some (some (.ref kKept)))
    (lKept : K.lookup kKept = some ⟨.type "tuple", oo1, .seq [.str "good" tk10, .str "all" tk11].toArray on1, os1⟩)
    (aLives : PySem.W.nsIn K mainGlobals "LIVES" = some (some (.ref kLives)))
    (lLives : K.lookup kLives = some ⟨.type "tuple", oo2, .seq [.int 0 tk20, .int 1 tk21, .int 2 tk22, .int 3 tk23].toArray on2, os2⟩)
    (aAsked : PySem.W.nsIn K mainGlobals "MOST_ASKED" = some (some (.ref kAsked)))
    (lAsked : K.lookup kAsked = some ⟨.type "tuple", oo3, .seq [.int 1 tk30, .int 2 tk31, .int 3 tk32].toArray on3, os3⟩)
    (aMTries : PySem.W.nsIn K mainGlobals "MOST_TRIES" = some (some (.ref kMTries)))
    (lMTries : K.lookup kMTries = some ⟨.type "tuple", oo4, .seq [.int 1 tk40, .int 2 tk41, .int 3 tk42, .int 4 tk43, .int 5 tk44, .int 6 tk45].toArray on4, os4⟩)
    (aFaults : PySem.W.nsIn K mainGlobals "FAULTS" = some (some (.ref kFaults)))
    (lFaults : K.lookup kFaults = some ⟨.type "tuple", oo5, .seq [.str "fault" tk50, .str "all" tk51].toArray on5, os5⟩)
    (FKeep : FunD K "__init__" "Keep.__init__" (defArgs s_Keep_init) (defBody s_Keep_init) (defScope s_Keep_init) [.str "good", .non] [] fKeep dKeep)
    (FTries : FunD K "__init__" "Tries.__init__" (defArgs s_Tries_init) (defBody s_Tries_init) (defScope s_Tries_init) [.str "fault"] [] fTries dTries)
    (FLimit : Fun K "__init__" "Limit.__init__" s_Limit_init fLimit dLimit)
    (FSoft : FunD K "__init__" "Soft.__init__" (defArgs s_Soft_init) (defBody s_Soft_init) (defScope s_Soft_init) [.str "fault"] [] fSoft dSoft)
    (WKeep : Meth K keep "words" wKeep)
    (VKeep : Fun K "words" "Keep.words" s_Keep_words wKeep dwKeep)
    (WTries : Meth K tries "words" wTries)
    (VTries : Fun K "words" "Tries.words" s_Tries_words wTries dwTries)
    (WLimit : Meth K limit "words" wLimit)
    (VLimit : Fun K "words" "Limit.words" s_Limit_words wLimit dwLimit)
    (WLeave : Meth K leave "words" wLeave)
    (VLeave : Fun K "words" "Leave.words" s_Leave_words wLeave dwLeave)
    (WSoft : Meth K soft "words" wSoft)
    (VSoft : Fun K "words" "Soft.words" s_Soft_words wSoft dwSoft)
    (WCount : Meth K count "words" wCount)
    (VCount : Fun K "words" "Count.words" s_Count_words wCount dwCount)
    (WLend : Meth K lend "words" wLend)
    (VLend : Fun K "words" "Lend.words" s_Lend_words wLend dwLend)
    (FStr : Fun K "__str__" "Row.__str__" s_Row_str gs dStr)
    (FEq : Fun K "__eq__" "Row.__eq__" s_Row_eq ge dEq)
    (CR : ClX.CRead K row (.type "type"))
    (CM : ClX.CMet K row (.type "type") "read" pRead fRead)
    (FRead : Fun K "read" "Row.read" s_Row_read fRead dRead)
    (aInt : PySem.W.nsIn K mainGlobals "is_integer" = some (some (.ref fInt)))
    (FInt : Fun K "is_integer" "is_integer" s_is_integer fInt dInt)
    (aOne : PySem.W.nsIn K mainGlobals "is_one_of" = some (some (.ref fOne)))
    (FOne : Fun K "is_one_of" "is_one_of" s_is_one_of fOne dOne)
    (aChk : PySem.W.nsIn K mainGlobals "check_argument" = some (some (.ref fChk)))
    (FChk : Fun K "check_argument" "check_argument" s_check_argument fChk dChk)
    (aEvery : PySem.W.nsIn K mainGlobals "every_row" = some (some (.ref fEvery)))
    (FEvery : Fun K "every_row" "every_row" s_every_row fEvery dEvery)
    (z_isinstance : PySem.W.nsIn K mainGlobals "isinstance" = some none)
    (z_str : PySem.W.nsIn K mainGlobals "str" = some none)
    (z_int : PySem.W.nsIn K mainGlobals "int" = some none)
    (z_bool : PySem.W.nsIn K mainGlobals "bool" = some none)
    (aStack : PySem.W.nsIn K mainGlobals "Stack" = some (some (.ref S)))
    (oStack : OwnC K S gsS geS)
    (nRows : PySem.W.findIn K (.ref S) "rows" = some none)
    (lnS : PySem.W.findIn K (.ref S) "__len__" = some (some (.ref glS)))
    (lfS : PySem.W.isFn K (.ref glS) = true)
    (mStack : Mk K S fInit)
    (FInit : FunD K "__init__" "Stack.__init__" (defArgs s_Stack_init) (defBody s_Stack_init) (defScope s_Stack_init) [.ref d0] [] fInit dInit)
    (lD0 : K.lookup d0 = some ⟨.type "tuple", oo0, .seq [].toArray on0, os0⟩)
    (FsS : Fun K "__str__" "Stack.__str__" s_Stack_str gsS dsS)
    (FeS : Fun K "__eq__" "Stack.__eq__" s_Stack_eq geS deS)
    (MWo : Meth K S "without" fWo)
    (FWo : Fun K "without" "Stack.without" s_Stack_without fWo dWo)
    (MSw : Meth K S "swapped" fSw)
    (FSw : Fun K "swapped" "Stack.swapped" s_Stack_swapped fSw dSw)
    (MPu : Meth K S "put" fPu)
    (FPu : Fun K "put" "Stack.put" s_Stack_put fPu dPu)
    (aSf : PySem.W.selfFirst K S = true)
    (aAd : PySem.W.findIn K (.ref S) "__add__" = some (some (.ref fAd)))
    (aAf : PySem.W.isFn K (.ref fAd) = true)
    (aCd : PySem.W.clsIn K S = some cd)
    (aMr : cd.mro = [.ref S, .type "object"])
    (aIa : PySem.W.findIn K (.ref S) (PySem.dunderI "add") = some none)
    (aIt : PySem.W.findIn K (.ref S) "__getitem__" = some (some (.ref fIt)))
    (aIz : PySem.W.fnIn K fIt = true)
    (aIf : PySem.W.isFn K (.ref fIt) = true)
    (FAd : Fun K "__add__" "Stack.__add__" s_Stack_add fAd dAd)
    (FIt : Fun K "__getitem__" "Stack.__getitem__" s_Stack_getitem fIt dIt)
    (CRS : ClX.CRead K S (.type "type"))
    (CMS : ClX.CMet K S (.type "type") "read" pReadS fReadS)
    (FReadS : Fun K "read" "Stack.read" s_Stack_read fReadS dReadS)
    (aSeq : PySem.W.nsIn K mainGlobals "is_sequence" = some (some (.ref fSeq)))
    (FSeq : Fun K "is_sequence" "is_sequence" s_is_sequence fSeq dSeq)
    (aOf : PySem.W.nsIn K mainGlobals "rows_of" = some (some (.ref fOf)))
    (FOf : Fun K "rows_of" "rows_of" s_rows_of fOf dOf)
    (aIn : PySem.W.nsIn K mainGlobals "rows_in" = some (some (.ref fIn)))
    (FIn : Fun K "rows_in" "rows_in" s_rows_in fIn dIn)
    (aIx : PySem.W.nsIn K mainGlobals "check_index" = some (some (.ref fIx)))
    (FIx : Fun K "check_index" "check_index" s_check_index fIx dIx)
    (aEx : PySem.W.nsIn K mainGlobals "exchanged" = some (some (.ref fEx)))
    (FEx : Fun K "exchanged" "exchanged" s_exchanged fEx dEx)
    (z_tuple : PySem.W.nsIn K mainGlobals "tuple" = some none)
    (z_list : PySem.W.nsIn K mainGlobals "list" = some none)
    (z_enumerate : PySem.W.nsIn K mainGlobals "enumerate" = some none)
    (z_len : PySem.W.nsIn K mainGlobals "len" = some none)
    (aSo : PySem.W.nsIn K mainGlobals "_law_source" = some (some (.ref fSo)))
    (FSo : Fun K "_law_source" "_law_source" s_law_source fSo dSo)
    (aDr : PySem.W.nsIn K mainGlobals "_law_draw" = some (some (.ref fDr)))
    (FDr : Fun K "_law_draw" "_law_draw" s_law_draw fDr dDr)
    (aPi : PySem.W.nsIn K mainGlobals "_law_pick" = some (some (.ref fPi)))
    (FPi : Fun K "_law_pick" "_law_pick" s_law_pick fPi dPi)
    (aMx : PySem.W.nsIn K mainGlobals "_law_mixed" = some (some (.ref fMx)))
    (FMx : Fun K "_law_mixed" "_law_mixed" s_law_mixed fMx dMx)
    (aRo : PySem.W.nsIn K mainGlobals "_law_row" = some (some (.ref fRo)))
    (FRo : Fun K "_law_row" "_law_row" s_law_row fRo dRo)
    (aRs : PySem.W.nsIn K mainGlobals "_law_rows" = some (some (.ref fRs)))
    (FRs : Fun K "_law_rows" "_law_rows" s_law_rows fRs dRs)
    (aRt : PySem.W.nsIn K mainGlobals "_law_row_text" = some (some (.ref fRt)))
    (FRt : Fun K "_law_row_text" "_law_row_text" s_law_row_text fRt dRt)
    (aTx : PySem.W.nsIn K mainGlobals "_law_text" = some (some (.ref fTx)))
    (FTx : Fun K "_law_text" "_law_text" s_law_text fTx dTx)
    (aLaw : PySem.W.nsIn K mainGlobals "law" = some (some (.ref fLaw)))
    (FLaw : Fun K "law" "law" s_law fLaw dLaw)
    (z_abs : PySem.W.nsIn K mainGlobals "abs" = some none)
    (z_range : PySem.W.nsIn K mainGlobals "range" = some none)
    (z_max : PySem.W.nsIn K mainGlobals "max" = some none)
    (z_min : PySem.W.nsIn K mainGlobals "min" = some none)
    (nKeep : keep ≠ S) (nTries : tries ≠ S) (nLimit : limit ≠ S) (nLeave : leave ≠ S) (nSoft : soft ≠ S) (nCount : count ≠ S) (nLend : lend ≠ S) :
    ∃ fd : FuncData, (∀ (s : Shared) (v : Value), BindsTo s fd ⟨[v], []⟩ [("_law_script", v)]) ∧ ∀ base : Heap, K.In base → base.Ns mainGlobals mg → FnOk P w K mg base CX0 12 fa fd ["_law_script"] (spLaw K) := by
  have e := hfa.symm.trans (mg_of X G aLaw)
  cases e
  let c : Cs := ⟨row, keep, tries, limit, leave, soft, count, lend⟩
  have T : Txt' K mg c gs ge := { own := (fun r => match r with | .keep .. => oKeep | .tries .. => oTries | .limit .. => oLimit | .leave .. => oLeave | .soft .. => oSoft | .count .. => oCount | .lend .. => oLend), nW := nW, nL := nL, tM := tM, tO := tO, lM := lM, sO := sO, isR := (fun r => match r with | .keep .. => kit_own iRow tRow sKeep (.inr rfl) | .tries .. => kit_own iRow tRow sTries (.inr rfl) | .limit .. => kit_own iRow tRow sLimit (.inr rfl) | .leave .. => kit_own iRow tRow sLeave (.inr rfl) | .soft .. => kit_own iRow tRow sSoft (.inr rfl) | .count .. => kit_own iRow tRow sCount (.inr rfl) | .lend .. => kit_own iRow tRow sLend (.inr rfl)), mRow := mg_of X G aRow, mKeep := mg_of X G aKeep, mTries := mg_of X G aTries, mLimit := mg_of X G aLimit, mLeave := mg_of X G aLeave, mSoft := mg_of X G aSoft, mCount := mg_of X G aCount, mLend := mg_of X G aLend, oLeave := mLeave, oCount := mCount, oLend := mLend, cKept := ⟨kKept, mg_of X G aKept, KTup.of lKept (by simp) (.cons ⟨_, rfl⟩ (.cons ⟨_, rfl⟩ .nil))⟩, cLives := ⟨kLives, mg_of X G aLives, KTup.of lLives (by simp) (.cons ⟨_, rfl⟩ (.cons ⟨_, rfl⟩ (.cons ⟨_, rfl⟩ (.cons ⟨_, rfl⟩ .nil))))⟩, cAsked := ⟨kAsked, mg_of X G aAsked, KTup.of lAsked (by simp) (.cons ⟨_, rfl⟩ (.cons ⟨_, rfl⟩ (.cons ⟨_, rfl⟩ .nil)))⟩, cTries := ⟨kMTries, mg_of X G aMTries, KTup.of lMTries (by simp) (.cons ⟨_, rfl⟩ (.cons ⟨_, rfl⟩ (.cons ⟨_, rfl⟩ (.cons ⟨_, rfl⟩ (.cons ⟨_, rfl⟩ (.cons ⟨_, rfl⟩ .nil))))))⟩, cFaults := ⟨kFaults, mg_of X G aFaults, KTup.of lFaults (by simp) (.cons ⟨_, rfl⟩ (.cons ⟨_, rfl⟩ .nil))⟩, isi := mg_none_of X G z_isinstance, str := mg_none_of X G z_str, int_ := mg_none_of X G z_int, bool_ := mg_none_of X G z_bool }
  have TS : TxtS K mg S gsS geS glS := ⟨oStack, nRows, if_pos (beq_self_eq_true _), by simp [PySem.W.notFirst], lnS, lfS, mg_of X G aStack, mg_none_of X G z_isinstance, mg_none_of X G z_str, mg_none_of X G z_tuple, mg_none_of X G z_list, mg_none_of X G z_enumerate, mg_none_of X G z_len⟩
  have B : Bn mg := ⟨mg_none_of X G z_int, mg_none_of X G z_abs, mg_none_of X G z_len, mg_none_of X G z_range, mg_none_of X G z_list, mg_none_of X G z_str⟩
  have bInt := FInt.binds (ps := ["value"]) fun _ _ _ _ _ _ us hl => match us, hl with | [_], _ => rfl
  have bOne := FOne.binds (ps := ["value", "numbers"]) fun _ _ _ _ _ _ us hl => match us, hl with | [_, _], _ => rfl
  have bChk := FChk.binds (ps := ["word", "is_right"]) fun _ _ _ _ _ _ us hl => match us, hl with | [_, _], _ => rfl
  have bEvery := FEvery.binds (ps := []) fun _ _ _ _ _ _ us hl => match us, hl with | [], _ => rfl
  have bLimit := FLimit.binds (ps := ["self", "many"]) fun _ _ _ _ _ _ us hl => match us, hl with | [_, _], _ => rfl
  obtain ⟨eK, vK, bKeep⟩ := FKeep.binds1 (ps := ["self", "what", "life"]) 3 2 (List.cons_ne_nil _ _) rfl fun T kV doc pm an cdv ct us its h1 h2 => match us, its, h1, h2 with | [_, _, _], [_, _], _, _ => ⟨_, rfl, rfl⟩
  cases vK
  obtain ⟨eT, vT, bTries⟩ := FTries.binds1 (ps := ["self", "many", "on"]) 3 1 (List.cons_ne_nil _ _) rfl fun T kV doc pm an cdv ct us its h1 h2 => match us, its, h1, h2 with | [_, _, _], [_], _, _ => ⟨_, rfl, rfl⟩
  cases vT
  obtain ⟨eS, vS, bSoft⟩ := FSoft.binds1 (ps := ["self", "on"]) 2 1 (List.cons_ne_nil _ _) rfl fun T kV doc pm an cdv ct us its h1 h2 => match us, its, h1, h2 with | [_, _], [_], _, _ => ⟨_, rfl, rfl⟩
  cases vS
  obtain ⟨eI, vI, bInit⟩ := FInit.binds1 (ps := ["self", "rows"]) 2 1 (List.cons_ne_nil _ _) rfl fun T kV doc pm an cdv ct us its h1 h2 => match us, its, h1, h2 with | [_, _], [_], _, _ => ⟨_, rfl, rfl⟩
  cases vI
  obtain ⟨eJ, vJ, bInit0⟩ := FInit.binds1 (ps := ["self", "rows"]) 1 0 (List.cons_ne_nil _ _) rfl fun T kV doc pm an cdv ct us its h1 h2 => match us, its, h1, h2 with | [_], [_], _, _ => ⟨_, rfl, rfl⟩
  have eJ' : eJ = [.ref d0] := by
    cases vJ with
    | cons h1 h2 =>
      cases h2
      cases h1
      rfl
  subst eJ'
  have bKeepw := VKeep.binds (ps := ["self"]) fun _ _ _ _ _ _ us hl => match us, hl with | [_], _ => rfl
  have bTriesw := VTries.binds (ps := ["self"]) fun _ _ _ _ _ _ us hl => match us, hl with | [_], _ => rfl
  have bLimitw := VLimit.binds (ps := ["self"]) fun _ _ _ _ _ _ us hl => match us, hl with | [_], _ => rfl
  have bLeavew := VLeave.binds (ps := ["self"]) fun _ _ _ _ _ _ us hl => match us, hl with | [_], _ => rfl
  have bSoftw := VSoft.binds (ps := ["self"]) fun _ _ _ _ _ _ us hl => match us, hl with | [_], _ => rfl
  have bCountw := VCount.binds (ps := ["self"]) fun _ _ _ _ _ _ us hl => match us, hl with | [_], _ => rfl
  have bLendw := VLend.binds (ps := ["self"]) fun _ _ _ _ _ _ us hl => match us, hl with | [_], _ => rfl
  have bStr := FStr.binds (ps := ["self"]) fun _ _ _ _ _ _ us hl => match us, hl with | [_], _ => rfl
  have bEq := FEq.binds (ps := ["self", "other"]) fun _ _ _ _ _ _ us hl => match us, hl with | [_, _], _ => rfl
  have bRead := FRead.binds (ps := ["cls", "text"]) fun _ _ _ _ _ _ us hl => match us, hl with | [_, _], _ => rfl
  have bsS := FsS.binds (ps := ["self"]) fun _ _ _ _ _ _ us hl => match us, hl with | [_], _ => rfl
  have beS := FeS.binds (ps := ["self", "other"]) fun _ _ _ _ _ _ us hl => match us, hl with | [_, _], _ => rfl
  have bReadS := FReadS.binds (ps := ["cls", "text"]) fun _ _ _ _ _ _ us hl => match us, hl with | [_, _], _ => rfl
  have bSeq := FSeq.binds (ps := ["value"]) fun _ _ _ _ _ _ us hl => match us, hl with | [_], _ => rfl
  have bOf := FOf.binds (ps := ["value"]) fun _ _ _ _ _ _ us hl => match us, hl with | [_], _ => rfl
  have bIn := FIn.binds (ps := ["lines"]) fun _ _ _ _ _ _ us hl => match us, hl with | [_], _ => rfl
  have bIx := FIx.binds (ps := ["at", "many"]) fun _ _ _ _ _ _ us hl => match us, hl with | [_, _], _ => rfl
  have bEx := FEx.binds (ps := ["things", "at"]) fun _ _ _ _ _ _ us hl => match us, hl with | [_, _], _ => rfl
  have bWo := FWo.binds (ps := ["self", "at"]) fun _ _ _ _ _ _ us hl => match us, hl with | [_, _], _ => rfl
  have bSw := FSw.binds (ps := ["self", "at"]) fun _ _ _ _ _ _ us hl => match us, hl with | [_, _], _ => rfl
  have bPu := FPu.binds (ps := ["self", "at", "row"]) fun _ _ _ _ _ _ us hl => match us, hl with | [_, _, _], _ => rfl
  have bAd := FAd.binds (ps := ["self", "other"]) fun _ _ _ _ _ _ us hl => match us, hl with | [_, _], _ => rfl
  have bIt := FIt.binds (ps := ["self", "at"]) fun _ _ _ _ _ _ us hl => match us, hl with | [_, _], _ => rfl
  have bSo := FSo.binds (ps := ["_law_script", "_law_base"]) fun _ _ _ _ _ _ us hl => match us, hl with | [_, _], _ => rfl
  have bDr := FDr.binds (ps := ["_law_deal", "_law_wide"]) fun _ _ _ _ _ _ us hl => match us, hl with | [_, _], _ => rfl
  have bPi := FPi.binds (ps := ["_law_deal", "_law_some"]) fun _ _ _ _ _ _ us hl => match us, hl with | [_, _], _ => rfl
  have bMx := FMx.binds (ps := ["_law_deal", "_law_some"]) fun _ _ _ _ _ _ us hl => match us, hl with | [_, _], _ => rfl
  have bRo := FRo.binds (ps := ["_law_deal", "_law_sort"]) fun _ _ _ _ _ _ us hl => match us, hl with | [_, _], _ => rfl
  have bRs := FRs.binds (ps := ["_law_deal", "_law_amount"]) fun _ _ _ _ _ _ us hl => match us, hl with | [_, _], _ => rfl
  have bRt := FRt.binds (ps := ["_law_row_here"]) fun _ _ _ _ _ _ us hl => match us, hl with | [_], _ => rfl
  have bTx := FTx.binds (ps := ["_law_rows_here"]) fun _ _ _ _ _ _ us hl => match us, hl with | [_], _ => rfl
  have lo : ∀ base : Heap, Low P w K mg base fOne fChk dOne dChk := fun base => ⟨ok_is_one_of FOne T FInt bInt (mg_of X G aInt), bOne, mg_of X G aOne, FOne.kp, ok_check FChk, bChk, mg_of X G aChk, FChk.kp⟩
  have mk : ∀ base : Heap, Makers P w K mg base c fKeep fTries fLimit fSoft dKeep dTries dLimit dSoft := fun base => ⟨mKeep, ok_Keep FKeep T (lo base), bKeep, mTries, ok_Tries FTries T (lo base), bTries, mLimit, ok_Limit FLimit T (lo base), bLimit, mSoft, ok_Soft FSoft T (lo base), bSoft⟩
  have wd : ∀ base : Heap, WordsOk P w K mg base c := fun base r => match r with
    | .keep a b => ⟨wKeep, dwKeep, WKeep, bKeepw, (ok_wKeep VKeep T).imp fun vs H Q E ⟨p, r, h1, h2, h3⟩ => ⟨p, r, h1, ⟨a, b, h2⟩, h3⟩⟩
    | .tries a b => ⟨wTries, dwTries, WTries, bTriesw, (ok_wTries VTries T).imp fun vs H Q E ⟨p, r, h1, h2, h3⟩ => ⟨p, r, h1, ⟨a, b, h2⟩, h3⟩⟩
    | .limit a => ⟨wLimit, dwLimit, WLimit, bLimitw, (ok_wLimit VLimit T).imp fun vs H Q E ⟨p, r, h1, h2, h3⟩ => ⟨p, r, h1, ⟨a, h2⟩, h3⟩⟩
    | .leave => ⟨wLeave, dwLeave, WLeave, bLeavew, ok_wLeave VLeave⟩
    | .soft a => ⟨wSoft, dwSoft, WSoft, bSoftw, (ok_wSoft VSoft T).imp fun vs H Q E ⟨p, r, h1, h2, h3⟩ => ⟨p, r, h1, ⟨a, h2⟩, h3⟩⟩
    | .count => ⟨wCount, dwCount, WCount, bCountw, ok_wCount VCount⟩
    | .lend => ⟨wLend, dwLend, WLend, bLendw, ok_wLend VLend⟩
  have gStr : ∀ base : Heap, FnOk P w K mg base CX0 2 gs dStr ["self"] (spStr c) := fun base => ok_str FStr T (wd base)
  have gEq : ∀ base : Heap, FnOk P w K mg base CX0 5 ge dEq ["self", "other"] (spEq K c) := fun base => ok_eq FEq T (gStr base) bStr
  have gRead : ∀ base : Heap, ReadOk P w K mg base c pRead fRead dRead (.type "type") := fun base => ⟨ok_read FRead T (ok_every FEvery T (mk base)) bEvery (mg_of X G aEvery) FEvery.kp (gStr base) bStr, bRead, CR, CM⟩
  have nc : ∀ r : R, c.of r ≠ S := fun r => match r with | .keep .. => nKeep | .tries .. => nTries | .limit .. => nLimit | .leave .. => nLeave | .soft .. => nSoft | .count .. => nCount | .lend .. => nLend
  have gsS' : ∀ base : Heap, FnOk P w K mg base CX0 5 gsS dsS ["self"] (spStrS K c S) := fun base => ok_strS FsS T TS (gStr base) bStr
  have geS' : ∀ base : Heap, FnOk P w K mg base CX0 8 geS deS ["self", "other"] (spEqS K c S) := fun base => ok_eqS FeS TS (gsS' base) bsS
  have gOf : ∀ base : Heap, FnOk P w K mg base CX0 2 fOf dOf ["value"] (spRowsOf K c) := fun base => ok_rows_of FOf T TS FSeq bSeq (mg_of X G aSeq)
  have ms : ∀ base : Heap, MakeS P w K mg base c S fInit d0 dInit := fun base => ⟨mStack, ok_initS FInit TS nc (gOf base) bOf (mg_of X G aOf) FOf.kp, bInit, bInit0, KTup.of lD0 (by simp) .nil⟩
  have rd : ∀ base : Heap, ReadS P w K mg base c S pReadS fReadS dReadS (.type "type") := fun base => ⟨ok_readS FReadS (ms base) (ok_rows_in FIn T TS (gRead base)) bIn (mg_of X G aIn) FIn.kp, bReadS, CRS, CMS⟩
  have dr : ∀ base : Heap, Def P w K mg base 1 "_law_draw" ["_law_deal", "_law_wide"] spDraw fDr dDr := fun base => ⟨ok_draw FDr B, bDr, mg_of X G aDr, FDr.kp⟩
  have dr' : ∀ base : Heap, DrawOk P w K mg base fDr dDr := fun base => ⟨(dr base).g, bDr, (dr base).m, FDr.kp⟩
  have rt : ∀ base : Heap, Def P w K mg base 1 "_law_row_text" ["_law_row_here"] spRowText fRt dRt := fun base => ⟨ok_row_text FRt B, bRt, mg_of X G aRt, FRt.kp⟩
  have gx : ∀ base : Heap, IdxOk P w K mg base fIx dIx := fun base => ⟨ok_idx FIx, bIx, mg_of X G aIx, FIx.kp⟩
  have pk : ∀ base : Heap, Def P w K mg base 2 "_law_pick" ["_law_deal", "_law_some"] spPick fPi dPi := fun base => ⟨ok_pick FPi B (dr' base), bPi, mg_of X G aPi, FPi.kp⟩
  have ro : ∀ base : Heap, Def P w K mg base 3 "_law_row" ["_law_deal", "_law_sort"] spRow fRo dRo := fun base => ⟨ok_row FRo ⟨(pk base).g, bPi, mg_of X G aPi, FPi.kp⟩ (dr' base), bRo, mg_of X G aRo, FRo.kp⟩
  have rs : ∀ base : Heap, Def P w K mg base 4 "_law_rows" ["_law_deal", "_law_amount"] spRows fRs dRs := fun base =>
    ⟨ok_rows FRs ⟨ok_mixed FMx B (dr' base), bMx, mg_of X G aMx, FMx.kp⟩ ⟨(ro base).g, bRo, mg_of X G aRo, FRo.kp⟩, bRs, mg_of X G aRs, FRs.kp⟩
  refine ⟨_, fun s v => ?bnd, fun base _ _ => ok_law9 (c := c) FLaw T TS B (mg_none_of X G z_max) (mg_none_of X G z_min) ⟨ok_source FSo B, bSo, mg_of X G aSo, FSo.kp⟩ (dr base) (pk base) (ro base) (rs base) ⟨ok_text FTx (rt base), bTx, mg_of X G aTx, FTx.kp⟩ (rt base)
    (ms base) (rd base) (gRead base) (gEq base) bEq (gsS' base) bsS (geS' base) beS ⟨MWo, ok_without FWo TS (ms base) (gx base), bWo⟩ ⟨MSw, ok_swapped FSw TS (ms base) (gx base) (ok_exch FEx) (mg_of X G aEx) FEx.kp bEx, bSw⟩ ⟨MPu, ok_put FPu TS (ms base) (gx base), bPu⟩ (ok_add FAd TS (ms base)) bAd (ok_item FIt TS (gx base)) bIt aSf aAd aAf aCd aMr aIa aIt aIz aIf⟩
  case bnd => obtain ⟨_, _, _, _, _, _, _, _, _, rfl, _, _⟩ := FLaw.ex; exact .of_eq rfl
theorem walk {l : PySem.W.OpenLaw} {q : Program} {loose : List Str} {XP : (Str → Option Value) → Heap → Prop} {YP : World → Heap → Prop} {d : DefRec} {K : Params → PySem.W.Frag} (hn : l.most = some 63) (hdf : d.params.defaults = [])
    (hY : ∀ (w : World) (h : Heap), YP w h → (K w.params).In h)
    (F : ∀ (w : World) (mg : Str → Option Value) (fa : Addr) (h : Heap), (K w.params).In h → h.Ns mainGlobals mg → mg d.name = some (.ref fa) →
      ∃ fd : FuncData, (∀ (s : Shared) (u : Value), BindsTo s fd ⟨[u], []⟩ [("_law_script", u)]) ∧ ∀ base : Heap, (K w.params).In base → base.Ns mainGlobals mg → FnOk l.prog w (K w.params) mg base CX0 12 fa fd ["_law_script"] (spLaw (K w.params))) :
    PySem.W.WalkO q loose XP YP l.row.toRowW d [] (fun f vs => PySem.call f vs) :=
  L2.walk_of (n := 63) (k := 12) (x := "_law_script") (CX := fun _ => CX0) (sp := fun w => spLaw (K w.params)) hn (by decide) hdf ⟨rfl, by decide, by decide⟩ hY F (fun _ _ a ns hl _ hS => ⟨a, ns, rfl, hS, hl, fun _ => rfl⟩) fun _ _ _ _ _ z => z
end
end Ow
end
open PySem PySem.W PyProof.Rows
set_option maxRecDepth 100000 in
set_option maxHeartbeats 0 in
theorem PySem.Challenge.cw_outermost_k09_stacks_that_are_changed_holds : PySem.Challenge.rw_outermost_k09_stacks_that_are_changed.Holds := by
  w_on; o_law; k_head; (case hw => w_witness2)
  k_fill
  refine Ow.walk (l := PySem.Challenge.rw_outermost_k09_stacks_that_are_changed) rfl rfl (fun w h Y => PySem.W.kIn_of Y) ?F
  case F =>
    intro w mg fa h KX G hmg
    refine' Ow.all_mk KX G hmg ?aRow ?aKeep ?aTries ?aLimit ?aLeave ?aSoft ?aCount ?aLend ?oKeep ?oTries ?oLimit ?oLeave ?oSoft ?oCount ?oLend ?sKeep ?sTries ?sLimit ?sLeave ?sSoft ?sCount ?sLend ?iRow ?tRow ?nW ?nL ?tM ?tO ?lM ?sO ?mKeep ?mTries ?mLimit ?mSoft ?mLeave ?mCount ?mLend ?aKept ?lKept ?aLives ?lLives ?aAsked ?lAsked ?aMTries ?lMTries ?aFaults ?lFaults ?FKeep ?FTries ?FLimit ?FSoft ?WKeep ?VKeep ?WTries ?VTries ?WLimit ?VLimit ?WLeave ?VLeave ?WSoft ?VSoft ?WCount ?VCount ?WLend ?VLend ?FStr ?FEq ?CR ?CM ?FRead ?aInt ?FInt ?aOne ?FOne ?aChk ?FChk ?aEvery ?FEvery ?z_isinstance ?z_str ?z_int ?z_bool ?aStack ?oStack ?nRows ?lnS ?lfS ?mStack ?FInit ?lD0 ?FsS ?FeS ?MWo ?FWo ?MSw ?FSw ?MPu ?FPu ?aSf ?aAd ?aAf ?aCd ?aMr ?aIa ?aIt ?aIz ?aIf ?FAd ?FIt ?CRS ?CMS ?FReadS ?aSeq ?FSeq ?aOf ?FOf ?aIn ?FIn ?aIx ?FIx ?aEx ?FEx ?z_tuple ?z_list ?z_enumerate ?z_len ?aSo ?FSo ?aDr ?FDr ?aPi ?FPi ?aMx ?FMx ?aRo ?FRo ?aRs ?FRs ?aRt ?FRt ?aTx ?FTx ?aLaw ?FLaw ?z_abs ?z_range ?z_max ?z_min ?nKeep ?nTries ?nLimit ?nLeave ?nSoft ?nCount ?nLend
    (case aRow => k_is)
    (case aKeep => k_is)
    (case aTries => k_is)
    (case aLimit => k_is)
    (case aLeave => k_is)
    (case aSoft => k_is)
    (case aCount => k_is)
    (case aLend => k_is)
    (case oKeep => (constructor; (constructor <;> k_is); all_goals k_is))
    (case oTries => (constructor; (constructor <;> k_is); all_goals k_is))
    (case oLimit => (constructor; (constructor <;> k_is); all_goals k_is))
    (case oLeave => (constructor; (constructor <;> k_is); all_goals k_is))
    (case oSoft => (constructor; (constructor <;> k_is); all_goals k_is))
    (case oCount => (constructor; (constructor <;> k_is); all_goals k_is))
    (case oLend => (constructor; (constructor <;> k_is); all_goals k_is))
    (case sKeep => k_is)
    (case sTries => k_is)
    (case sLimit => k_is)
    (case sLeave => k_is)
    (case sSoft => k_is)
    (case sCount => k_is)
    (case sLend => k_is)
    (case iRow => k_is)
    (case tRow => k_is)
    (case nW => k_is)
    (case nL => k_is)
    (case tM => k_is)
    (case tO => k_is)
    (case lM => k_is)
    (case sO => k_is)
    (case mKeep => (constructor <;> k_is))
    (case mTries => (constructor <;> k_is))
    (case mLimit => (constructor <;> k_is))
    (case mSoft => (constructor <;> k_is))
    (case mLeave => (constructor <;> k_is))
    (case mCount => (constructor <;> k_is))
    (case mLend => (constructor <;> k_is))
    (case aKept => k_is)
    (case lKept => k_is)
    (case aLives => k_is)
    (case lLives => k_is)
    (case aAsked => k_is)
    (case lAsked => k_is)
    (case aMTries => k_is)
    (case lMTries => k_is)
    (case aFaults => k_is)
    (case lFaults => k_is)
    (case FKeep => (first | exact Ow.fund_mk (by k_is) (by k_is) (by k_is) (by exact .cons ⟨_, rfl⟩ (.cons rfl .nil)) (List.cons_ne_nil _ _) (by k_is) | (refine' Ow.fund_mk ?_ ?_ ?_ ?_ (List.cons_ne_nil _ _) ?_ <;> first | k_is | exact .cons ⟨_, rfl⟩ (.cons rfl .nil) | skip)))
    (case FTries => (first | exact Ow.fund_mk (by k_is) (by k_is) (by k_is) (by exact .cons ⟨_, rfl⟩ .nil) (List.cons_ne_nil _ _) (by k_is) | (refine' Ow.fund_mk ?_ ?_ ?_ ?_ (List.cons_ne_nil _ _) ?_ <;> first | k_is | exact .cons ⟨_, rfl⟩ .nil | skip)))
    (case FLimit => (first | exact L2.fun_mk (by k_is) (by k_is) (by k_is) | (refine' L2.fun_mk ?_ ?_ ?_ <;> try k_is)))
    (case FSoft => (first | exact Ow.fund_mk (by k_is) (by k_is) (by k_is) (by exact .cons ⟨_, rfl⟩ .nil) (List.cons_ne_nil _ _) (by k_is) | (refine' Ow.fund_mk ?_ ?_ ?_ ?_ (List.cons_ne_nil _ _) ?_ <;> first | k_is | exact .cons ⟨_, rfl⟩ .nil | skip)))
    (case WKeep => (constructor <;> k_is))
    (case VKeep => (first | exact L2.fun_mk (by k_is) (by k_is) (by k_is) | (refine' L2.fun_mk ?_ ?_ ?_ <;> try k_is)))
    (case WTries => (constructor <;> k_is))
    (case VTries => (first | exact L2.fun_mk (by k_is) (by k_is) (by k_is) | (refine' L2.fun_mk ?_ ?_ ?_ <;> try k_is)))
    (case WLimit => (constructor <;> k_is))
    (case VLimit => (first | exact L2.fun_mk (by k_is) (by k_is) (by k_is) | (refine' L2.fun_mk ?_ ?_ ?_ <;> try k_is)))
    (case WLeave => (constructor <;> k_is))
    (case VLeave => (first | exact L2.fun_mk (by k_is) (by k_is) (by k_is) | (refine' L2.fun_mk ?_ ?_ ?_ <;> try k_is)))
    (case WSoft => (constructor <;> k_is))
    (case VSoft => (first | exact L2.fun_mk (by k_is) (by k_is) (by k_is) | (refine' L2.fun_mk ?_ ?_ ?_ <;> try k_is)))
    (case WCount => (constructor <;> k_is))
    (case VCount => (first | exact L2.fun_mk (by k_is) (by k_is) (by k_is) | (refine' L2.fun_mk ?_ ?_ ?_ <;> try k_is)))
    (case WLend => (constructor <;> k_is))
    (case VLend => (first | exact L2.fun_mk (by k_is) (by k_is) (by k_is) | (refine' L2.fun_mk ?_ ?_ ?_ <;> try k_is)))
    (case FStr => (first | exact L2.fun_mk (by k_is) (by k_is) (by k_is) | (refine' L2.fun_mk ?_ ?_ ?_ <;> try k_is)))
    (case FEq => (first | exact L2.fun_mk (by k_is) (by k_is) (by k_is) | (refine' L2.fun_mk ?_ ?_ ?_ <;> try k_is)))
    (case CR => (constructor <;> k_is))
    (case CM => (first | exact Ow.cmet_mk (by k_is) (by k_is) (by k_is) | (refine' Ow.cmet_mk ?_ ?_ ?_ <;> try k_is)))
    (case FRead => (first | exact L2.fun_mk (by k_is) (by k_is) (by k_is) | (refine' L2.fun_mk ?_ ?_ ?_ <;> try k_is)))
    (case aInt => k_is)
    (case FInt => (first | exact L2.fun_mk (by k_is) (by k_is) (by k_is) | (refine' L2.fun_mk ?_ ?_ ?_ <;> try k_is)))
    (case aOne => k_is)
    (case FOne => (first | exact L2.fun_mk (by k_is) (by k_is) (by k_is) | (refine' L2.fun_mk ?_ ?_ ?_ <;> try k_is)))
    (case aChk => k_is)
    (case FChk => (first | exact L2.fun_mk (by k_is) (by k_is) (by k_is) | (refine' L2.fun_mk ?_ ?_ ?_ <;> try k_is)))
    (case aEvery => k_is)
    (case FEvery => (first | exact L2.fun_mk (by k_is) (by k_is) (by k_is) | (refine' L2.fun_mk ?_ ?_ ?_ <;> try k_is)))
    (case z_isinstance => k_is)
    (case z_str => k_is)
    (case z_int => k_is)
    (case z_bool => k_is)
    (case aStack => k_is)
    (case oStack => (constructor; (constructor <;> k_is); all_goals k_is))
    (case nRows => k_is)
    (case lnS => k_is)
    (case lfS => k_is)
    (case mStack => (constructor <;> k_is))
    (case FInit => (first | exact Ow.fund_mk (by k_is) (by k_is) (by k_is) (by exact .cons rfl .nil) (List.cons_ne_nil _ _) (by k_is) | (refine' Ow.fund_mk ?_ ?_ ?_ ?_ (List.cons_ne_nil _ _) ?_ <;> first | k_is | exact .cons rfl .nil | skip)))
    (case lD0 => k_is)
    (case FsS => (first | exact L2.fun_mk (by k_is) (by k_is) (by k_is) | (refine' L2.fun_mk ?_ ?_ ?_ <;> try k_is)))
    (case FeS => (first | exact L2.fun_mk (by k_is) (by k_is) (by k_is) | (refine' L2.fun_mk ?_ ?_ ?_ <;> try k_is)))
    (case MWo => (constructor <;> k_is))
    (case FWo => (first | exact L2.fun_mk (by k_is) (by k_is) (by k_is) | (refine' L2.fun_mk ?_ ?_ ?_ <;> try k_is)))
    (case MSw => (constructor <;> k_is))
    (case FSw => (first | exact L2.fun_mk (by k_is) (by k_is) (by k_is) | (refine' L2.fun_mk ?_ ?_ ?_ <;> try k_is)))
    (case MPu => (constructor <;> k_is))
    (case FPu => (first | exact L2.fun_mk (by k_is) (by k_is) (by k_is) | (refine' L2.fun_mk ?_ ?_ ?_ <;> try k_is)))
    (case aSf => k_is)
    (case aAd => k_is)
    (case aAf => k_is)
    (case aCd => k_is)
    (case aMr => rfl)
    (case aIa => k_is)
    (case aIt => k_is)
    (case aIz => k_is)
    (case aIf => k_is)
    (case FAd => (first | exact L2.fun_mk (by k_is) (by k_is) (by k_is) | (refine' L2.fun_mk ?_ ?_ ?_ <;> try k_is)))
    (case FIt => (first | exact L2.fun_mk (by k_is) (by k_is) (by k_is) | (refine' L2.fun_mk ?_ ?_ ?_ <;> try k_is)))
    (case CRS => (constructor <;> k_is))
    (case CMS => (first | exact Ow.cmet_mk (by k_is) (by k_is) (by k_is) | (refine' Ow.cmet_mk ?_ ?_ ?_ <;> try k_is)))
    (case FReadS => (first | exact L2.fun_mk (by k_is) (by k_is) (by k_is) | (refine' L2.fun_mk ?_ ?_ ?_ <;> try k_is)))
    (case aSeq => k_is)
    (case FSeq => (first | exact L2.fun_mk (by k_is) (by k_is) (by k_is) | (refine' L2.fun_mk ?_ ?_ ?_ <;> try k_is)))
    (case aOf => k_is)
    (case FOf => (first | exact L2.fun_mk (by k_is) (by k_is) (by k_is) | (refine' L2.fun_mk ?_ ?_ ?_ <;> try k_is)))
    (case aIn => k_is)
    (case FIn => (first | exact L2.fun_mk (by k_is) (by k_is) (by k_is) | (refine' L2.fun_mk ?_ ?_ ?_ <;> try k_is)))
    (case aIx => k_is)
    (case FIx => (first | exact L2.fun_mk (by k_is) (by k_is) (by k_is) | (refine' L2.fun_mk ?_ ?_ ?_ <;> try k_is)))
    (case aEx => k_is)
    (case FEx => (first | exact L2.fun_mk (by k_is) (by k_is) (by k_is) | (refine' L2.fun_mk ?_ ?_ ?_ <;> try k_is)))
    (case z_tuple => k_is)
    (case z_list => k_is)
    (case z_enumerate => k_is)
    (case z_len => k_is)
    (case aSo => k_is)
    (case FSo => (first | exact L2.fun_mk (by k_is) (by k_is) (by k_is) | (refine' L2.fun_mk ?_ ?_ ?_ <;> try k_is)))
    (case aDr => k_is)
    (case FDr => (first | exact L2.fun_mk (by k_is) (by k_is) (by k_is) | (refine' L2.fun_mk ?_ ?_ ?_ <;> try k_is)))
    (case aPi => k_is)
    (case FPi => (first | exact L2.fun_mk (by k_is) (by k_is) (by k_is) | (refine' L2.fun_mk ?_ ?_ ?_ <;> try k_is)))
    (case aMx => k_is)
    (case FMx => (first | exact L2.fun_mk (by k_is) (by k_is) (by k_is) | (refine' L2.fun_mk ?_ ?_ ?_ <;> try k_is)))
    (case aRo => k_is)
    (case FRo => (first | exact L2.fun_mk (by k_is) (by k_is) (by k_is) | (refine' L2.fun_mk ?_ ?_ ?_ <;> try k_is)))
    (case aRs => k_is)
    (case FRs => (first | exact L2.fun_mk (by k_is) (by k_is) (by k_is) | (refine' L2.fun_mk ?_ ?_ ?_ <;> try k_is)))
    (case aRt => k_is)
    (case FRt => (first | exact L2.fun_mk (by k_is) (by k_is) (by k_is) | (refine' L2.fun_mk ?_ ?_ ?_ <;> try k_is)))
    (case aTx => k_is)
    (case FTx => (first | exact L2.fun_mk (by k_is) (by k_is) (by k_is) | (refine' L2.fun_mk ?_ ?_ ?_ <;> try k_is)))
    (case aLaw => k_is)
    (case FLaw => (first | exact L2.fun_mk (by k_is) (by k_is) (by k_is) | (refine' L2.fun_mk ?_ ?_ ?_ <;> try k_is)))
    (case z_abs => k_is)
    (case z_range => k_is)
    (case z_max => k_is)
    (case z_min => k_is)
    (case nKeep => decide)
    (case nTries => decide)
    (case nLimit => decide)
    (case nLeave => decide)
    (case nSoft => decide)
    (case nCount => decide)
    (case nLend => decide)
