import PyProof.Rows.All
import Wide.All
import OpenK.AllK
import Wide.FinOn
import HandS.ForMost
import HandS.ClsMeth
import HandS.Defaults
import HandS.IsInst
import HandS.Star
import HandS.Codes
import HandS.RaiseMore
import HandS.Style
import KE.GoesEnum
import OpenK.KOps
import HandS.CallLocal
import HandS.Conv
import HandS.OwnEq
import KE.GoesZip
import KE.GoesMore
import HandS.Iter
import HandS.Comp
import PyProof.MeetsIn
import PyProof.EqKinds
import HandS.Exc
import HandS.ExcInit
import HandS.ExcOwn
import HandS.ExcField
import HandS.ExcIs
import HandS.WordsExc
import KE.KExcIs
import KE.KIsAll
import HandS.ExcCtx
import HandS.Hot
import HandS.HotCalls
import HandS.SuiteRaise
import HandS.RaiseFrom
import HandS.ExcInitHot
import HandS.Text
import PySem.Challenge.RW_outermost_k08_texts_of_no_stack
set_option Elab.async false
set_option linter.all false
set_option maxRecDepth 100000
set_option maxHeartbeats 4000000
section
/-! Own rules: str(x), x == y, x != y by an own class's methods (instances with a dict); C() without an __init__. -/
namespace Own
open PySem PySem.Spec PyProof.Rows L2

section
variable {prog : Program} {w : World} {M : Model} {A : Around} {E : Value → Shared → Prop} {s : Shared} {K : PySem.W.Frag} {x C f : Addr} {ox : Obj} {od : Option Obj}
/-- a special method that is a built-in's slot -/
theorem ifBound_B {name : Str} {id : String} {args : List Value} {Q : Option Value → Shared → Prop} (X : K.In s.heap) (I : PySem.W.InstAt s.heap x ox C od) (hs : PySem.W.findIn K (.ref C) name = some (some (.builtin id)))
    (hb : ∀ self, bindSpecial (.builtin id) self = pure (.builtin id, [self])) (h : wpAny M A (call (.builtin id) (.ref x :: args)) (fun v => Q (some v)) E s) : wpAny M A (callSpecialIfBound? (.ref x) name args) Q E s := by
  simp only [callSpecialIfBound?, bindSpecialIfBound?]
  refine wpAny_holding (wpAny_bind (wpAny_bind (wpAny_bind (I.type.here ((PySem.W.looks_findIn X hs).here ?_)))))
  refine wpAny_bind (wpAny_askSetting (wpAny_ite ?_))
  have fin : wpAny M A (call (.builtin id) ([.ref x] ++ args) >>= fun v => pure (some v)) Q E s := wpAny_bind (wpAny_mono h (fun v s' h' => wpAny_pure h') fun _ _ h' => h')
  split
  · exact wpAny_bind ((PySem.W.Looks.of_pure (hb _)).here (wpAny_pure (by exact fin)))
  · exact wpAny_tryCatch (wpAny_bind ((PySem.W.Looks.of_pure (hb _)).here (wpAny_pure (by exact fin))))
open Builtin in
/-- object.__ne__ asks the own __eq__ -/
theorem objNe {b : Value} {Q : Value → Shared → Prop} (hu : A.in1.units < cLine) (X : K.In s.heap) (I : PySem.W.InstAt s.heap x ox C od) (hm : PySem.W.mroIn K C (.type "object") = some true) (he : PySem.W.findIn K (.ref C) "__eq__" = some (some (.ref f))) (hf : PySem.W.isFn K (.ref f) = true)
    (h : wpAny (model prog w) A.in1 (call (.ref f) [.ref x, b]) (fun v s' => ∃ r, v = .bool r ∧ Q (.bool (!r)) s') E s) : wpAny (model prog w) A (call (.builtin "object.__ne__") [.ref x, b]) Q E s := by
  refine wpAny_call (codeAny_call_builtin PySem.F.cmp_object.ne.plain PySem.F.cmpEntry_ne (@PySem.W.check_slot (model prog w) _ _ s "object.__ne__" "object" "__ne__" (.ref x) [b] [] _ PySem.F.cmpKind_ne PySem.F.cmpSplit_ne (I.type.andThen (PySem.W.looks_mroIn X hm)) (PySem.F.cmpArgs_ne _ _) ?_))
  unfold Builtin.«object.__ne__»
  refine wpAny_bind (m := slotArgs "__ne__" 1 _) (wpAny_pure ?_)
  refine wpAny_bind (m := cRoomFor _ _) (wpAny_cRoomFor hu ?_)
  refine wpAny_bind (m := callSpecialIfBound? (.ref x) (Str.ofString "__eq__") _) (PySem.W.ifBound_K X I he hf (wpAny_mono h (fun r s' hq => ?_) fun _ _ y => y))
  obtain ⟨r, rfl, q⟩ := hq
  refine wpAny_bind (m := truthy (.bool r)) (wpAny_truthy_bool ?_)
  exact wpAny_pure q
/-- x != b where the class at C has an own __eq__ and object's __ne__ -/
theorem ne_K {b tb : Value} {Q : Value → Shared → Prop} (hu : A.units + 1 < cLine) (X : K.In s.heap) (I : PySem.W.InstAt s.heap x ox C od) (hb : PySem.W.Looks (model prog w) s.heap (typeOf b) tb) (hn : PySem.W.notFirst K C tb = true)
    (hs : PySem.W.findIn K (.ref C) "__ne__" = some (some (.builtin "object.__ne__"))) (hm : PySem.W.mroIn K C (.type "object") = some true) (he : PySem.W.findIn K (.ref C) "__eq__" = some (some (.ref f))) (hf : PySem.W.isFn K (.ref f) = true)
    (h : wpAny (model prog w) A.in1 (call (.ref f) [.ref x, b]) (fun v s' => ∃ r, v = .bool r ∧ Q (.bool (!r)) s') E s) : wpAny (model prog w) A (richCompare .NotEq (.ref x) b) Q E s := by
  have one : wpAny (model prog w) A (tryCompare (.ref x) (cmpInfo .NotEq).2.1 b) (fun r s' => ∃ v, r = some v ∧ Q v s') E s := by
    unfold tryCompare
    refine wpAny_bind (ifBound_B X I hs PySem.F.cmp_object.ne.bind (objNe (show A.units + 1 < cLine from hu) X I hm he hf (wpAny_mono h (fun v s' hv => ?_) fun _ _ e => e)))
    obtain ⟨r, rfl, q⟩ := hv
    exact ⟨r, rfl, wpAny_pure ⟨_, rfl, q⟩⟩
  unfold richCompare
  simp only [oneThing_ref]
  refine wpAny_holding (wpAny_bind (wpAny_cRoomFor (Nat.lt_of_succ_lt hu) ?_))
  refine wpAny_bind (I.type.here (wpAny_bind (hb.here ?_)))
  split
  · rename_i q
    have e : PySem.W.subIn K tb (.ref C) = some false := by
      rcases Bool.or_eq_true_iff.mp hn with e | e
      · rw [beq_iff_eq.mp e] at q; simp at q
      · exact beq_iff_eq.mp e
    refine wpAny_bind ((PySem.W.looks_subIn X e).here ?_)
    simp only [Bool.false_eq_true, if_false]
    refine wpAny_bind (wpAny_mono one (fun r s' z => ?_) fun _ _ e => e)
    obtain ⟨v, rfl, hq⟩ := z
    exact wpAny_pure hq
  · refine wpAny_bind (wpAny_pure ?_)
    simp only [Bool.false_eq_true, if_false]
    refine wpAny_bind (wpAny_mono one (fun r s' z => ?_) fun _ _ e => e)
    obtain ⟨v, rfl, hq⟩ := z
    exact wpAny_pure hq
end

/-! ### rules -/
/-- what str, ==, != and isinstance ask of an own class -/
structure OwnC (K : PySem.W.Frag) (C : Addr) (gs ge : Addr) : Prop where
  cl : Cls K C
  st : PySem.W.findIn K (.ref C) "__str__" = some (some (.ref gs))
  stf : PySem.W.isFn K (.ref gs) = true
  eq : PySem.W.findIn K (.ref C) "__eq__" = some (some (.ref ge))
  eqf : PySem.W.isFn K (.ref ge) = true
  ne : PySem.W.findIn K (.ref C) "__ne__" = some (some (.builtin "object.__ne__"))
  ca : PySem.W.findIn K (.ref C) "__class__" = some (some (.builtin "object.__class__"))
  cn : PySem.W.specialIn K (.builtin "object.__class__") "__get__" = some (some (.builtin "getset_descriptor.__get__"))
  ct : PySem.W.takesIn K (.builtin "object.__class__") = some true
  cm : PySem.W.mroIn K C (.type "object") = some true
theorem OwnC.ty {K : PySem.W.Frag} {C gs ge : Addr} (c : OwnC K C gs ge) {H : Hp} {a dx : Addr} {fs : List (Str × V)} (h : H a = some (.ins C dx fs)) : TyX K H (.ref a) (.ref C) :=
  .base (.ins h c.cl c.ca c.cn c.ct c.cm)
section
variable {X : Cx} {CX : CXT} {pins : List (Addr × Obj)} {σ : L2.St} {H : Hp} {s : Shared} {gs ge : Addr} {n : Nat} {sp : Sp} {E : XK}
theorem run_at {A : Around} {g : Addr} {Q : VK} {us : List Value} {ws : List V} (F : FnR X.prog X.w X.K X.mg X.base CX n g sp) (hr : Room n A) (e0 : Env0 X.prog X.w X.K X.mg X.base A X.stack s H) (hx : Passes CX X E) (I : Inv X pins σ H s) (r : Vals ws us) (h : sp ws H Q E) :
    codeAny (model X.prog X.w) A (.call (.ref g) ⟨us, []⟩) (fun r s' => match r with | .ok (.ret v) => EP X pins σ Q v s' | .ok _ => False | .error e => X.xe e s') s := by
  refine codeAny_mono (F A X.stack s H us ws Q E hr e0 r h) fun r s' hq => ?_
  cases r with
  | error e => exact hx pins σ H s e s' I hq
  | ok fl =>
    cases fl with
    | ret u => exact I.after hq
    | next => exact False.elim hq
    | brk => exact False.elim hq
    | cont => exact False.elim hq
/-- str(x): x an instance of a class whose __str__ is at gs -/
def rStrOwn (K : PySem.W.Frag) (gs : Addr) (sp : Sp) (E : XK) : List V → Hp → VK → Prop := fun xs H Q => ∃ a C dx fs ge, xs = [V.ref a] ∧ H a = some (.ins C dx fs) ∧ OwnC K C gs ge ∧ sp [.ref a] H (fun z H' => ∃ y, z = .str y ∧ Q z H') E
theorem call_strOwn (F : FnR X.prog X.w X.K X.mg X.base CX n gs sp) (hr : Room (n + 2) X.A) (hx : Passes CX X E) : CallR X (.type "str") (rStrOwn X.K gs sp E) := by
  intro pins s σ H xs us Q I r h
  obtain ⟨a, C, dx, fs, ge, rfl, ea, c, q⟩ := h
  obtain ⟨u, rfl, ru⟩ := r.one
  cases (show u = Value.ref a from ru)
  obtain ⟨mA, O, rr, _, _, _⟩ := ins_get I.hok ea
  obtain ⟨od, J, hl⟩ := O.look
  have hr2 : Room n X.A.in1.in1 := (show Room (n + 1) X.A.in1 from Room.in1 hr).in1
  refine PySem.W.kso_call hr2.units0 I.kIn J c.st c.stf (wpAny_mono (wpAny_call (run_at (us := [.ref a]) (ws := [.ref a]) F hr2 I.env0.in1.in1 hx I (.cons rfl .nil) q)) (fun w s' z => ?_) fun _ _ x => x)
  obtain ⟨z', H', I', rz, y, ey, qz⟩ := z
  subst ey
  obtain ⟨t, e⟩ := (show ∃ t, w = Value.str y t from rz)
  cases e
  exact ⟨.str y, H', I', ⟨t, rfl⟩, qz⟩
/-- x == y, x an instance of a class whose __eq__ is at ge, y anything that is not of a class below it -/
def rEqOwn (K : PySem.W.Frag) (ge : Addr) (sp : Sp) (E : XK) (f : Bool → Bool) : R2 := fun x y H Q => ∃ a C dx fs gs t, x = .ref a ∧ H a = some (.ins C dx fs) ∧ OwnC K C gs ge ∧ TyX K H y t ∧ PySem.W.notFirst K C t = true ∧ sp [x, y] H (fun z H' => ∃ b, z = .bl b ∧ Q (.bl (f b)) H') E
theorem op_eqOwn (F : FnR X.prog X.w X.K X.mg X.base CX n ge sp) (hr : Room n X.A) (hx : Passes CX X E) : OpR X (compareOp .Eq) (rEqOwn X.K ge sp E id) := by
  intro pins s σ H x y v u Q I rx ry h
  obtain ⟨a, C, dx, fs, gs, t, rfl, ea, c, ty, hn, q⟩ := h
  cases (show v = Value.ref a from rx)
  obtain ⟨mA, O, rr, _, _, _⟩ := ins_get I.hok ea
  obtain ⟨od, J, hl⟩ := O.look
  obtain ⟨P, Z, p, _⟩ := kit_of I ry ty
  obtain ⟨m, hF⟩ := I.fr
  show wpAny (model X.prog X.w) X.A (richCompare .Eq (.ref a) u) (EP X pins σ Q) X.xe s
  refine PySem.W.cmp_K (op := .Eq) (tb := t) hr.units0 hF I.ok.mod.kin J (Z.ty _ _ I.kIn p) hn c.eq c.eqf ?_
  refine wpAny_mono (wpAny_call (run_fnR (us := [.ref a, u]) (vs := [.ref a, y]) F hr hx I (.cons rfl (.cons ry .nil)) q)) (fun w s' z => ?_) fun _ _ x => x
  obtain ⟨z', H', I', rz, b, eb, qz⟩ := z
  subst eb
  cases (show w = Value.bool b from rz)
  exact ⟨.bl b, H', I', rfl, qz⟩
theorem op_neOwn (F : FnR X.prog X.w X.K X.mg X.base CX n ge sp) (hr : Room (n + 1) X.A) (hx : Passes CX X E) : OpR X (compareOp .NotEq) (rEqOwn X.K ge sp E not) := by
  intro pins s σ H x y v u Q I rx ry h
  obtain ⟨a, C, dx, fs, gs, t, rfl, ea, c, ty, hn, q⟩ := h
  cases (show v = Value.ref a from rx)
  obtain ⟨mA, O, rr, _, _, _⟩ := ins_get I.hok ea
  obtain ⟨od, J, hl⟩ := O.look
  obtain ⟨P, Z, p, _⟩ := kit_of I ry ty
  show wpAny (model X.prog X.w) X.A (richCompare .NotEq (.ref a) u) (EP X pins σ Q) X.xe s
  have hr1 : Room n X.A.in1 := hr.in1
  refine ne_K (hr1.units0) I.kIn J (Z.ty _ _ I.kIn p) hn c.ne c.cm c.eq c.eqf ?_
  refine wpAny_mono (wpAny_call (run_at (us := [.ref a, u]) (ws := [.ref a, y]) F hr1 I.env0.in1 hx I (.cons rfl (.cons ry .nil)) q)) (fun w s' z => ?_) fun _ _ x => x
  obtain ⟨z', H', I', rz, b, eb, qz⟩ := z
  subst eb
  cases (show w = Value.bool b from rz)
  exact ⟨b, rfl, .bl (!b), H', I', rfl, qz⟩
end

/-! ### C() of a class without an __init__ -/
structure MkO (K : PySem.W.Frag) (C : Addr) : Prop where
  makes : PySem.W.makesIn K C = true
  init : PySem.W.findIn K (.ref C) "__init__" = some (some (.builtin "object.__init__"))
  kp : PySem.W.keepIn K (.ref C) = true
  cm : PySem.W.mroIn K C (.type "object") = some true
def tMakeO (C : Addr) : TE := fun _ H Q => ∀ x dx, H x = none → H dx = none → dx ≠ x → Q (.ref x) (upd (upd H dx (.own x)) x (.ins C dx []))
section
variable {X : Cx} {pins : List (Addr × Obj)} {σ : L2.St} {H : Hp} {s : Shared} {C : Addr} {x : Str} {p pos : Pos}
theorem run_makeO {Q : VK} (M : MkO X.K C) (I : Inv X pins σ H s) (h : tMakeO C σ H Q) : wpAny (model X.prog X.w) X.A (call (.ref C) []) (EP X pins σ Q) X.xe s := by
  have hq := h (s.heap.objs.size + 1) s.heap.objs.size (I.hok.fresh (Nat.le_succ _)) (I.hok.fresh (Nat.le_refl _)) (Nat.ne_of_lt (Nat.lt_succ_self _))
  have I2 := Inv.made (C := C) I
  have hx : ((s.heap.push PySem.W.emptyDict).push (PySem.W.instObj C s.heap.objs.size)).get? (s.heap.objs.size + 1) = some (PySem.W.instObj C s.heap.objs.size) := by
    have := Heap.get?_push_size (s.heap.push PySem.W.emptyDict) (o := PySem.W.instObj C s.heap.objs.size) rfl
    rwa [Heap.size_push] at this
  have t1 : PySem.W.Looks (model X.prog X.w) ((s.heap.push PySem.W.emptyDict).push (PySem.W.instObj C s.heap.objs.size)) (typeOf (.ref (s.heap.objs.size + 1))) (.ref C) := (PySem.W.Looks.ld hx).andThen .now
  refine wpAny_call (make_map0 I.kIn M.makes M.init (fun self => PySem.W.Looks.of_pure (PySem.W.oi_bind self)) ?_)
  refine codeAny_call_builtin PySem.W.oi_plain PySem.W.entry_oi (@PySem.W.check_slot (model X.prog X.w) _ _ _ "object.__init__" "object" "__init__" (.ref (s.heap.objs.size + 1)) [] [] _ PySem.W.oi_kind PySem.W.oi_split (t1.andThen (PySem.W.looks_mroIn I2.kIn M.cm)) (PySem.W.oi_args _) ?_)
  rw [PySem.W.oi_run]
  exact wpAny_pure (And.intro rfl ⟨V.ref (s.heap.objs.size + 1), _, I2, rfl, hq⟩)
theorem pe_makeO (M : MkO X.K C) (hg : Gl X x) (hm : X.mg x = some (.ref C)) (hdb : (x == ("__debug__" : Str)) = false := by decide) : PE X (.Call (.Name x p) [] [] pos) (tMakeO C) := by
  refine ⟨fun pins s σ H Q I h => ?_⟩
  refine wpAny_Call_Name_kw (ld_glob I hg hm ?_ hdb)
  exact PySem.W.callWith_K0 I.kIn M.kp (run_makeO M I h)
end
end Own
end
section
/-! enumerate over a tuple, in a for. -/
namespace Own
open PySem PySem.Spec PyProof.Rows L2
open Sem (wp)
open AutoSeq1 (wpAny_loadPart')
abbrev enumO (n : Nat) : Obj := { cls := .type "enumerate", data := .fields #[.none, .bool false, .ref n, rawInt 0, .none, .none] }
theorem enum_mk1 {v : Value} {o : Obj} {Hh : Heap → Prop} (B : Begins v o Hh) :
    Meets (Builtin.«enumerate.__new__» ⟨[.type "enumerate", v], []⟩) (fun _ R z => Hh z.heap ∧ R (.ok (.ret (.ref (z.heap.push o).objs.size))) { z with heap := (z.heap.push o).push (enumO z.heap.objs.size) }) :=
  .of_wp fun pr wo Ar Re sh hyp => by
    obtain ⟨hp, ge, dr, tok, osx⟩ := sh
    obtain ⟨hb, hre⟩ := hyp
    have sbt := sub_enumerate
    have itr : ∀ {Aa : Around} {Ee : Value → Shared → Prop} {Qq : Value → Shared → Prop}, Qq (.ref hp.objs.size) ⟨hp.push o, ge, dr, tok, osx⟩ → wpAny (model pr wo) Aa (pyIter v) Qq Ee ⟨hp, ge, dr, tok, osx⟩ := fun q => B.iter pr wo _ _ ⟨hp, ge, dr, tok, osx⟩ _ hb q
    wp_walk using itr
    refine wpAny_stack_any fun stk => wpAny_pure ?_
    split
    · rename_i cl _ _ _ _ _
      cases (cl == Value.type "enumerate") <;> (wp_walk using itr; exact ⟨_, rfl, hre⟩)
    · wp_walk using itr
      exact ⟨_, rfl, hre⟩

section
variable {prog : Program} {w : World} {A : Around} {E : Value → Shared → Prop} {s : Shared}
theorem call_enum1 {v : Value} {o : Obj} {Hh : Heap → Prop} {Q : Value → Shared → Prop} (B : Begins v o Hh) (hb : Hh s.heap)
    (h : ∀ hp', IsEnum hp' (s.heap.objs.size + 1) s.heap.objs.size 0 .none → hp'.get? s.heap.objs.size = some o → (∀ b u, s.heap.get? b = some u → hp'.get? b = some u) → Q (.ref (s.heap.objs.size + 1)) { s with heap := hp' }) :
    wpAny (model prog w) A (call (.type "enumerate") [v]) Q E s := by
  refine callType_new F.called_enumerate (by decide) (F.typeCall_enumerate_1 _) (F.newCall_enumerate_1 _) (fun ob => F.args_object_init_2 ob _) F.entry_enumerate_new (enum_mk1 B) ⟨hb, ?_⟩
  have sz : (s.heap.push o).objs.size = s.heap.objs.size + 1 := Heap.size_push ..
  have ie : IsEnum ((s.heap.push o).push (enumO s.heap.objs.size)) (s.heap.objs.size + 1) s.heap.objs.size 0 .none := by
    have z := Heap.get?_push_size (s.heap.push o) (o := enumO s.heap.objs.size) rfl
    rw [sz] at z
    exact z
  show _ ∧ _
  rw [sz]
  exact ⟨⟨_, ie, rfl⟩, h _ ie (Heap.get?_push_of_some _ (Heap.get?_push_size _ B.free)) fun b u x => Heap.get?_push_of_some _ (Heap.get?_push_of_some _ x)⟩
end
theorem drawsEnd {prog : Program} {w : World} {A : Around} (hh : A.handled = none) (it t : Addr) (items : Array Value) (n : Nat) (hn : items.size ≤ n) :
    Draws prog w A it [it, t] n (fun _ _ => False) (fun j h => h.IsTupleIter it t j ∧ h.IsTuple t items ∧ n ≤ j) where
  live := fun _ _ st => let ⟨o, ho, _⟩ := st.1; ⟨o, ho⟩
  frame := fun _ _ _ st hk => ⟨st.1.at fun o e => hk it (by simp) o e, st.2.1.at fun o e => hk t (by simp) o e, st.2.2⟩
  item := fun i s Q E hi st _ => absurd hi (Nat.not_lt.mpr st.2.2)
  done := fun s Q E st hE => wpAny_nextOf_tuple_end hh st.1 st.2.1 (by simp; omega) hE
/-- the tuple at a as it stands at each turn, each item in a new pair -/
def IteT (K : PySem.W.Frag) (a : Addr) : It :=
  ⟨fun i H => ∃ (xs : List V) (x : V), SqT K H a xs ∧ xs[i]? = some x,
   fun i H v H' => ∃ T x, v = .ref T ∧ H T = none ∧ H' = upd H T (.tup [.int (i : Nat), x]) ∧ ∀ xs, SqT K H a xs → xs[i]? = some x,
   fun i H => ∃ xs : List V, SqT K H a xs ∧ xs.length ≤ i⟩
theorem turn_enumT {P : Program} {w : World} {K : PySem.W.Frag} {elts : List Expr} {kk : Nat} {tpos : Pos} (a e it : Addr) :
    Turn P w K (.Tuple elts kk tpos) (IteT K a) [e, it] e (fun i h => (∃ old, IsEnum h e it ((i : Nat) : Int) old) ∧ h.IsTupleIter it a i ∧ e ≠ it) where
  mem := by simp
  obj := fun i h st b hb => by
    have z : b = e ∨ b = it := by simpa using hb
    have k := st.2.1
    obtain ⟨u, he⟩ := st.1
    cases z with
    | inl z => exact z ▸ ⟨_, he, fun v q => nomatch q⟩
    | inr z =>
      obtain ⟨ob, h1, _, h3⟩ := k
      exact z ▸ ⟨ob, h1, fun v q => nomatch h3.symm.trans q⟩
  keep := fun i h h' st k => by
    obtain ⟨⟨old, he⟩, ⟨o, ho, hr⟩, hne⟩ := st
    exact ⟨⟨old, k e (by simp) _ he⟩, ⟨o, k it (by simp) o ho, hr⟩, hne⟩
  item := by
    intro X hP hw hK hc i pins s σ H E I hf st hg
    subst hP hw hK
    obtain ⟨⟨old, he⟩, hit, hne⟩ := st
    obtain ⟨xs, x, hq, hx⟩ := hg
    obtain ⟨its, rv, p, hz⟩ := I.tuple hq
    obtain ⟨u, hu, ru⟩ := rv.get hx
    have le : e < s.heap.objs.size := Heap.lt_size he
    have li : it < s.heap.objs.size := by obtain ⟨_, q, _⟩ := hit; exact Heap.lt_size q
    have ait : a ≠ it := fun z => by
      obtain ⟨o, ho, hcl, _⟩ := hit
      obtain ⟨o2, ho2, hcl2, _⟩ := p
      have q : o = o2 := Option.some.inj (ho.symm.trans ((congrArg _ z.symm).trans ho2))
      subst q
      exact absurd (hcl.symm.trans hcl2) (by decide)
    have ae : e ≠ a := fun z => by
      obtain ⟨o2, ho2, hcl2, _⟩ := p
      have q := Option.some.inj ((show s.heap.get? e = some _ from he).symm.trans ((congrArg _ z).trans ho2))
      subst q
      exact absurd (show Value.type "enumerate" = Value.type "tuple" from hcl2) (by decide)
    have D := Draws.tuple (prog := X.prog) (w := X.w) (A := X.A.in1) (show X.A.in1.handled = none from I.ok.hd hc) it a ait its.toArray
    have hlt : i < its.toArray.size := by
      have q := (List.getElem?_eq_some_iff.mp hu).1
      simpa using q
    refine wpAny_pyNext_enum_itemD D he ⟨hit, p⟩ hlt hne (by simp [hne, ae]) fun y h' tk hP ho hit' hT hsz hk => ?_
    have ey : y = u := by
      have q : its.toArray[i]? = some u := by simpa using hu
      exact Option.some.inj (hP.symm.trans q)
    subst ey
    refine ⟨_, rfl, wpAny_letOwnedTupleGo_enum (s := { s with heap := h', toks := tk + 1 }) ho fun h2 he2 sb => ?_⟩
    have nel : s.heap.objs.size ≠ e := Nat.ne_of_gt le
    have new : ObjOk X.prog X.w (upd H s.heap.objs.size (.tup [.int (i : Nat), x])) h2 s.heap.objs.size (.tup [.int (i : Nat), x]) :=
      ⟨by show 2 ≤ sizeLine; decide, [.int i tk, y], .cons ⟨_, rfl⟩ (.cons ru .nil), ⟨_, (sb.2 _ nel).trans hT, rfl, _, rfl⟩⟩
    have J : Inv X pins σ (upd H s.heap.objs.size (.tup [.int (i : Nat), x])) { s with heap := h2, toks := tk + 1 } :=
      I.turnedNew (ch := [e, it]) (fun b ob hb q => (sb.2 b (fun z => hb (by simp [z]))).trans (hk b ob (fun z => hb (by simp [z])) (fun z => hb (by simp [z])) q)) hf (Nat.le_refl _) new
    obtain ⟨oi, hoi, hri⟩ := hit'.1
    refine ⟨.ref s.heap.objs.size, _, J, rfl, ⟨_, x, rfl, I.hok.fresh (Nat.le_refl _), rfl, fun ys hy => ?_⟩, ⟨⟨y, ?_⟩, ⟨oi, (sb.2 it (Ne.symm hne)).trans hoi, hri⟩, hne⟩, fun b hb => ?_⟩
    · rw [I.tuple_inj hy hq]
      exact hx
    · rw [(by omega : ((i + 1 : Nat) : Int) = (i : Int) + 1)]
      exact he2
    · have lb : b < s.heap.objs.size := by
        rcases (by simpa using hb : b = e ∨ b = it) with z | z <;> rw [z] <;> assumption
      rw [upd_ne (Nat.ne_of_lt lb)]
      exact (hf b hb).1
  done := by
    intro X hP hw hK hc i pins s σ H E I hf st hg
    subst hP hw hK
    have hit := st.2.1
    obtain ⟨u, he⟩ := st.1
    obtain ⟨xs, hq, hx⟩ := hg
    obtain ⟨its, rv, p, hz⟩ := I.tuple hq
    have hl := rv.length
    have D := drawsEnd (prog := X.prog) (w := X.w) (A := X.A.in1) (show X.A.in1.handled = none from I.ok.hd hc) it a its.toArray i (by simp; omega)
    obtain ⟨f0, f1, f2, f3, f4, f5⟩ := hf it (by simp)
    exact wpAny_pyNext_enum_endD D he ⟨hit, p, Nat.le_refl _⟩ fun h' eb => ⟨rfl, I.turned (t' := s.toks) (fun b o hb q => eb b o hb q) f0 f1 f3 f4 f5⟩
  self := fun A i s Q E st h => let ⟨⟨_, he⟩, _⟩ := st; wpAny_pyIter_enum he h
/-- enumerate of a list or of a tuple -/
def iEnumS (K : PySem.W.Frag) (ta : TA) : TI := fun σ H R => ta σ H fun vs H1 => ∃ a xs, vs = [.ref a] ∧ ((SqL K H1 a xs ∧ R (Ite K a) H1) ∨ (SqT K H1 a xs ∧ R (IteT K a) H1))
theorem pi_enumS {X : Cx} {e : Expr} {ta : TA} {p pos tpos : Pos} {elts : List Expr} {kk : Nat} (hg : Gl X "enumerate") (hm : X.mg "enumerate" = none) (ha : PA X [e] ta) (hs : starEach [e] X.env = [(false, eval e X.env)] := by rfl) :
    PI X (.Tuple elts kk tpos) (.Call (.Name "enumerate" p) [e] [] pos) (iEnumS X.K ta) := ⟨fun pins s σ H R I h => by
  refine Call_ (ld_blt I hg hm boot_enumerate (PyProof.Rows.callWith_type1 (thn (ha.run pos pins s σ H _ I h) fun us s1 w1 => ?_) hs rfl))
  obtain ⟨vs, H1, J, rr, a, xs, ex, q⟩ := w1
  subst ex
  have ru : us = [.ref a] := by
    cases rr with
    | cons r t => cases t; cases r; rfl
  subst ru
  have fpe : ∀ b ∈ [s1.heap.objs.size + 1, s1.heap.objs.size], FpOk X pins H1 b := fun b hb => by
    have hle : s1.heap.objs.size ≤ b := by
      have z : b = s1.heap.objs.size + 1 ∨ b = s1.heap.objs.size := by simpa using hb
      omega
    exact J.fpOk hle (J.hok.fresh hle)
  rcases q with ⟨hq, q⟩ | ⟨hq, q⟩
  · obtain ⟨its, rv, pl, hz⟩ := J.list hq
    exact call_enumerate_list pl.isList fun h' he hit hsz hk => wpAny_pyIter_enum he
      ⟨s1.heap.objs.size + 1, [s1.heap.objs.size + 1, s1.heap.objs.size], _, _, H1, rfl, (J.kept (t' := s1.toks) hk : Inv X pins σ H1 { s1 with heap := h' }), turn_enum a (s1.heap.objs.size + 1) s1.heap.objs.size, ⟨⟨.none, he⟩, hit, Nat.succ_ne_self _⟩, fpe, q⟩
  · obtain ⟨its, rv, pl, hz⟩ := J.tuple hq
    refine call_enum1 (begins_tuple a its.toArray) pl fun h' he hit hk => wpAny_pyIter_enum he ?_
    exact ⟨s1.heap.objs.size + 1, [s1.heap.objs.size + 1, s1.heap.objs.size], _, _, H1, rfl, (J.kept (t' := s1.toks) hk : Inv X pins σ H1 { s1 with heap := h' }), turn_enumT a (s1.heap.objs.size + 1) s1.heap.objs.size, ⟨⟨.none, he⟩, ⟨_, hit, rfl, rfl⟩, Nat.succ_ne_self _⟩, fpe, q⟩⟩
end Own
end
section
/-! More own rules: len(x) by an own __len__, a class that a local holds, lists and tuples by isinstance, walks over enumerate. -/
namespace Own
open PySem PySem.Spec PyProof.Rows L2
section
variable {X : Cx} {CX : CXT} {pins : List (Addr × Obj)} {σ : L2.St} {H : Hp} {s : Shared} {gl : Addr} {n : Nat} {sp : Sp} {E : XK}
/-- len(x): x an instance of a class whose __len__ is at gl -/
def rLenOwn (K : PySem.W.Frag) (gl : Addr) (sp : Sp) (E : XK) : List V → Hp → VK → Prop := fun xs H Q => ∃ a C dx fs, xs = [V.ref a] ∧ H a = some (.ins C dx fs) ∧
  PySem.W.findIn K (.ref C) "__len__" = some (some (.ref gl)) ∧ PySem.W.isFn K (.ref gl) = true ∧ sp [.ref a] H (fun z H' => ∃ k : Int, z = .int k ∧ 0 ≤ k ∧ k < 2 ^ 63 ∧ Q z H') E
theorem call_lenOwn (F : FnR X.prog X.w X.K X.mg X.base CX n gl sp) (hr : Room (n + 1) X.A) (hx : Passes CX X E) : CallR X (.builtin "len") (rLenOwn X.K gl sp E) := by
  intro pins s σ H xs us Q I r h
  obtain ⟨a, C, dx, fs, rfl, ea, hl, hf, q⟩ := h
  obtain ⟨u, rfl, ru⟩ := r.one
  cases (show u = Value.ref a from ru)
  obtain ⟨mA, O, rr, _, _, _⟩ := ins_get I.hok ea
  obtain ⟨od, J, _⟩ := O.look
  have hr1 : Room n X.A.in1 := hr.in1
  obtain ⟨m, hF⟩ := I.fr
  refine PySem.W.len_K hF I.ok.mod.kin J hl hf (wpAny_mono (wpAny_call (run_at (us := [.ref a]) (ws := [.ref a]) F hr1 I.env0.in1 hx I (.cons rfl .nil) q)) (fun w s' z => ?_) fun _ _ x => x)
  obtain ⟨z', H', I', rz, k, ek, k0, k1, qz⟩ := z
  subst ek
  obtain ⟨t, e⟩ := (show ∃ t, w = Value.int k t from rz)
  cases e
  exact ⟨⟨k0, k1⟩, .int k, H', I'.tok _, ⟨_, rfl⟩, qz⟩
end
/-! ### C(..), C a class that a local holds -/
def tMakeL (i : Nat) (C : Addr) (sp : Sp) (dvs : List V) (E : XK) (t : TA) : TE := fun σ H Q => σ[i]? = some (some (.ref C)) ∧ tMake C sp dvs E t σ H Q
section
variable {X : Cx} {CX : CXT} {k i : Nat} {C f : Addr} {fd : FuncData} {ps : List Str} {sp : Sp} {dvs : List V} {ds : List Value} {E : XK} {x : Str} {p pos : Pos} {e : Expr} {es : List Expr} {t : TA}
theorem pe_makeL (M : Mk X.K C f) (F : FnOk X.prog X.w X.K X.mg X.base CX k f fd ps sp) (hr : Room (k + 1) X.A) (hN : X.N[i]? = some x) (hv : Vis X.env.scope x) (hb : Binds X.K fd ps ds) (hd : Vals dvs ds) (hx : Passes CX X E) (ha : PA X (e :: es) t)
    (hdb : (x == ("__debug__" : Str)) = false := by decide) (hcd : (x == ("__classdict__" : Str)) = false := by decide)
    (he : starEach (e :: es) X.env = (false, eval e X.env) :: starEach es X.env := by rfl) (hpl : (backTo pos (starEach es X.env)).any (·.1) = false := by rfl) : PE X (.Call (.Name x p) (e :: es) [] pos) (tMakeL i C sp dvs E t) := ⟨fun pins s σ H Q I ⟨hs, ht⟩ => by
  refine wpAny_Call_Name_kw (thn ((pe_var (pos := p) hN hv hdb hcd).run pins s σ H (fun y H1 => y = .ref C ∧ H1 = H) I ⟨.ref C, hs, rfl, rfl⟩) fun u s1 w1 => ?_)
  obtain ⟨y, H1, J, ry, ey, eh⟩ := w1
  subst ey eh
  cases ry
  exact PySem.W.callWith_K (h₀ := X.base) J.ok.mod.kin M.kp (thn (ha.run pos pins s1 σ _ _ J ht) fun us s2 ⟨vs, H2, J2, r, q⟩ => ⟨J2.kIn, run_make M F hr hb hd hx J2 r q⟩) he hpl⟩
theorem pe_makeL0 (M : Mk X.K C f) (F : FnOk X.prog X.w X.K X.mg X.base CX k f fd ps sp) (hr : Room (k + 1) X.A) (hN : X.N[i]? = some x) (hv : Vis X.env.scope x) (hb : Binds X.K fd ps ds) (hd : Vals dvs ds) (hx : Passes CX X E)
    (hdb : (x == ("__debug__" : Str)) = false := by decide) (hcd : (x == ("__classdict__" : Str)) = false := by decide) : PE X (.Call (.Name x p) [] [] pos) (tMakeL i C sp dvs E tNil) := ⟨fun pins s σ H Q I ⟨hs, ht⟩ => by
  refine wpAny_Call_Name_kw (thn ((pe_var (pos := p) hN hv hdb hcd).run pins s σ H (fun y H1 => y = .ref C ∧ H1 = H) I ⟨.ref C, hs, rfl, rfl⟩) fun u s1 w1 => ?_)
  obtain ⟨y, H1, J, ry, ey, eh⟩ := w1
  subst ey eh
  cases ry
  exact PySem.W.callWith_K0 J.kIn M.kp (run_make (us := []) M F hr hb hd hx J .nil ht)⟩
end
/-! ### lists and tuples -/
theorem tyL {K : PySem.W.Frag} {H : Hp} {a : Addr} {xs : List V} (h : SqL K H a xs) : TyX K H (.ref a) (.type "list") := by
  rcases h with (h | ⟨o, h⟩) | ⟨o, its, n, h, c, _⟩
  · exact .base (.lst h)
  · exact .base (.frz h)
  · exact .kList h c
theorem tyT {K : PySem.W.Frag} {H : Hp} {a : Addr} {xs : List V} (h : SqT K H a xs) : TyX K H (.ref a) (.type "tuple") := by
  rcases h with (h | ⟨o, h⟩) | ⟨o, its, n, h, c, _⟩
  · exact .base (.tup h)
  · exact .fTuple h
  · exact .kTuple h c
/-- a list or a tuple -/
def SqS (K : PySem.W.Frag) (H : Hp) (a : Addr) (xs : List V) : Prop := SqL K H a xs ∨ SqT K H a xs
theorem SqT.sm {K : PySem.W.Frag} {H H' : Hp} {a : Addr} {xs : List V} (h : SqT K H a xs) (e : Same H H') : SqT K H' a xs :=
  h.elim (fun h => .inl (h.elim (fun h => .inl (e _ _ h)) fun ⟨o, h⟩ => .inr ⟨o, e _ _ h⟩)) .inr
theorem SqS.sm {K : PySem.W.Frag} {H H' : Hp} {a : Addr} {xs : List V} (h : SqS K H a xs) (e : Same H H') : SqS K H' a xs := h.elim (fun h => .inl (e.seq h)) fun h => .inr (SqT.sm h e)
/-- a for over enumerate of a list -/
theorem for_enumL {K : PySem.W.Frag} {a : Addr} {xs : List V} {g : TG} {tb : TS} {D : Ends} {σ : L2.St} {H : Hp} (Pv : Nat → L2.St → Hp → Prop) (h0 : Pv 0 σ H) (hl : ∀ i τ G, i ≤ xs.length → Pv i τ G → SqL K G a xs)
    (hs : ∀ i x τ G T, xs[i]? = some x → Pv i τ G → G T = none → g (.ref T) τ (upd G T (.tup [.int (i : Nat), x])) fun τ2 G2 => tb { D with nx := Pv (i + 1), ct := Pv (i + 1), bk := D.nx } τ2 G2) (hd : ∀ τ G, Pv xs.length τ G → D.nx τ G) :
    ∃ W : Nat → Nat → L2.St → Hp → Prop, (∃ m, W 0 m σ H) ∧ ∀ i m τ G, W i m τ G →
      ((Ite K a).stop i G ∧ D.nx τ G) ∨ ((Ite K a).go i G ∧ ∃ N : L2.St → Hp → Prop, (∀ τ' G', N τ' G' → ∃ m', m' < m ∧ W (i + 1) m' τ' G') ∧ ∀ x G', (Ite K a).yld i G x G' → g x τ G' fun τ2 G2 => tb { D with nx := N, ct := N, bk := D.nx } τ2 G2) := by
  refine ⟨fun i m τ G => m = xs.length - i ∧ i ≤ xs.length ∧ Pv i τ G, ⟨xs.length, by simp, Nat.zero_le _, h0⟩, fun i m τ G z => ?_⟩
  obtain ⟨rfl, hi, p⟩ := z
  have q := hl i τ G hi p
  rcases Nat.lt_or_eq_of_le hi with lt | e
  · refine .inr ⟨⟨xs, xs[i], q, List.getElem?_eq_getElem lt⟩, Pv (i + 1), fun τ' G' p' => ⟨xs.length - (i + 1), by omega, rfl, lt, p'⟩, fun y G' z => ?_⟩
    obtain ⟨T, x, rfl, hT, rfl, hx⟩ := z
    exact hs i x τ G T (hx xs q) p hT
  · exact .inl ⟨⟨xs, q, Nat.le_of_eq e.symm⟩, hd τ G (e ▸ p)⟩
/-- .. of a tuple -/
theorem for_enumT {K : PySem.W.Frag} {a : Addr} {xs : List V} {g : TG} {tb : TS} {D : Ends} {σ : L2.St} {H : Hp} (Pv : Nat → L2.St → Hp → Prop) (h0 : Pv 0 σ H) (hl : ∀ i τ G, i ≤ xs.length → Pv i τ G → SqT K G a xs)
    (hs : ∀ i x τ G T, xs[i]? = some x → Pv i τ G → G T = none → g (.ref T) τ (upd G T (.tup [.int (i : Nat), x])) fun τ2 G2 => tb { D with nx := Pv (i + 1), ct := Pv (i + 1), bk := D.nx } τ2 G2) (hd : ∀ τ G, Pv xs.length τ G → D.nx τ G) :
    ∃ W : Nat → Nat → L2.St → Hp → Prop, (∃ m, W 0 m σ H) ∧ ∀ i m τ G, W i m τ G →
      ((IteT K a).stop i G ∧ D.nx τ G) ∨ ((IteT K a).go i G ∧ ∃ N : L2.St → Hp → Prop, (∀ τ' G', N τ' G' → ∃ m', m' < m ∧ W (i + 1) m' τ' G') ∧ ∀ x G', (IteT K a).yld i G x G' → g x τ G' fun τ2 G2 => tb { D with nx := N, ct := N, bk := D.nx } τ2 G2) := by
  refine ⟨fun i m τ G => m = xs.length - i ∧ i ≤ xs.length ∧ Pv i τ G, ⟨xs.length, by simp, Nat.zero_le _, h0⟩, fun i m τ G z => ?_⟩
  obtain ⟨rfl, hi, p⟩ := z
  have q := hl i τ G hi p
  rcases Nat.lt_or_eq_of_le hi with lt | e
  · refine .inr ⟨⟨xs, xs[i], q, List.getElem?_eq_getElem lt⟩, Pv (i + 1), fun τ' G' p' => ⟨xs.length - (i + 1), by omega, rfl, lt, p'⟩, fun y G' z => ?_⟩
    obtain ⟨T, x, rfl, hT, rfl, hx⟩ := z
    exact hs i x τ G T (hx xs q) p hT
  · exact .inl ⟨⟨xs, q, Nat.le_of_eq e.symm⟩, hd τ G (e ▸ p)⟩
end Own
end
section
/-! Own rules: x + y by an own __add__, x[i] by an own __getitem__. -/
namespace Own
open PySem PySem.Spec PyProof.Rows L2
section
variable {X : Cx} {CX : CXT} {f : Addr} {n : Nat} {sp : Sp} {E : XK}
/-- x + y: both of one class, its __add__ at f -/
def rAddOwn (K : PySem.W.Frag) (f : Addr) (sp : Sp) (E : XK) : R2 := fun x y H Q => ∃ a b C dx fs dy hs, x = .ref a ∧ y = .ref b ∧ H a = some (.ins C dx fs) ∧ H b = some (.ins C dy hs) ∧ PySem.W.selfFirst K C = true ∧
  PySem.W.findIn K (.ref C) "__add__" = some (some (.ref f)) ∧ PySem.W.isFn K (.ref f) = true ∧ sp [x, y] H (fun z H' => (∃ p, z = .ref p) ∧ Q z H') E
theorem op_addOwn (F : FnR X.prog X.w X.K X.mg X.base CX n f sp) (hr : Room n X.A) (hx : Passes CX X E) : OpR X (binaryOp .Add) (rAddOwn X.K f sp E) := fun pins s σ H x y v u Q I rx ry h => by
  obtain ⟨a, b, C, dx, fs, dy, hs, rfl, rfl, ea, eb, hsf, hfi, hf, q⟩ := h
  cases rx
  cases ry
  obtain ⟨_, O, _⟩ := ins_get I.hok ea
  obtain ⟨_, O', _⟩ := ins_get I.hok eb
  obtain ⟨od, J, _⟩ := O.look
  obtain ⟨od', J', _⟩ := O'.look
  obtain ⟨m, hF⟩ := I.fr
  refine PySem.W.binop_K (op := .Add) hF I.ok.mod.kin J J'.type hsf hfi hf ?_
  refine wpAny_mono (wpAny_call (run_fnR (us := [.ref a, .ref b]) (vs := [.ref a, .ref b]) F hr hx I (.cons rfl (.cons rfl .nil)) q)) (fun w s' z => ?_) fun _ _ x => x
  obtain ⟨z', H', J2, rz, ⟨p, ep⟩, qz⟩ := z
  subst ep
  cases (show w = Value.ref p from rz)
  exact ⟨.ref p, H', J2, rfl, qz⟩
/-- x[i]: the __getitem__ of x's class at f -/
def rIxOwn (K : PySem.W.Frag) (f : Addr) (sp : Sp) (E : XK) : R2 := fun x y H Q => ∃ a C dx fs, x = .ref a ∧ H a = some (.ins C dx fs) ∧
  PySem.W.findIn K (.ref C) "__getitem__" = some (some (.ref f)) ∧ PySem.W.fnIn K f = true ∧ PySem.W.isFn K (.ref f) = true ∧ sp [x, y] H Q E
theorem pe_ixOwn {a b : Expr} {ta tb : TE} {pos : Pos} (F : FnR X.prog X.w X.K X.mg X.base CX n f sp) (hr : Room (n + 1) X.A) (hx : Passes CX X E) (ha : PE X a ta) (hb : PE X b tb)
    (hsl : ∀ v i, subscripted b true v i = runValue (.builtin "lifetime.subscript" ⟨[v, i], []⟩)) : PE X (.Subscript a b pos) (tOp (rIxOwn X.K f sp E) ta tb) := ⟨fun pins s σ H Q I h => Subscript_ (binT ha hb I h fun v u s2 x y H2 J0 rx ry q => by
  obtain ⟨a', C, dx, fs, rfl, ea, hfi, hn, hf, q⟩ := q
  cases rx
  obtain ⟨_, O, _⟩ := ins_get J0.hok ea
  obtain ⟨od, J, _⟩ := O.look
  obtain ⟨m, hF⟩ := J0.fr
  have hr1 : Room n X.A.in1 := hr.in1
  exact PySem.W.sub_K hF J0.ok.mod.kin J hfi hn hf (wpAny_call (run_at (us := [.ref a', u]) (ws := [.ref a', y]) F hr1 J0.env0.in1 hx J0 (.cons rfl (.cons ry .nil)) q)) (hsl _ _))⟩
end
/-! ### x += y where the class has an own __add__ and no __iadd__ -/
theorem noI_object : typeLookup (.type "object") (PySem.dunderI "add") = pure none := by rw [typeLookup_type, builtinLookup_eq_fast]; kernel_rfl
theorem no_inplace {M : Model} {h : Heap} {K : PySem.W.Frag} {C : Addr} {cd : ClassData} (X : K.In h) (hc : PySem.W.clsIn K C = some cd) (hm : cd.mro = [.ref C, .type "object"]) (hs : PySem.W.findIn K (.ref C) (PySem.dunderI "add") = some none) :
    PySem.W.Looks M h (fillsInplaceSlot (.ref C) "add" true) false := by
  intro A Q E s k q
  unfold fillsInplaceSlot
  refine wpAny_bind ((PySem.W.looks_clsIn X hc).andThen (f := fun cd => pure cd.mro) .now A _ E s k ?_)
  rw [hm, List.anyM_cons]
  refine wpAny_bind (wpAny_bind (PySem.W.looks_findIn X hs A _ E s k ?_))
  refine wpAny_pure ?_
  rw [if_neg Bool.false_ne_true, List.anyM_cons]
  refine wpAny_bind (wpAny_bind (wpAny_of_eq noI_object (wpAny_pure (wpAny_pure ?_))))
  exact q
section
variable {prog : Program} {w : World} {A : Around} {E : Value → Shared → Prop} {s : Shared} {K : PySem.W.Frag} {x C L f : Addr} {h₀ : Heap} {m : Str → Option Value} {ox : Obj} {od : Option Obj}
theorem iadd_K {b : Value} {cd : ClassData} {Q : Value → Shared → Prop} (X : K.In s.heap) (I : PySem.W.InstAt s.heap x ox C od) (hb : PySem.W.Looks (model prog w) s.heap (typeOf b) (.ref C)) (hc : PySem.W.clsIn K C = some cd) (hm : cd.mro = [.ref C, .type "object"])
    (hi : PySem.W.findIn K (.ref C) (PySem.dunderI "add") = some none) (hs : PySem.W.findIn K (.ref C) (PySem.dunder "add") = some (some (.ref f))) (hf : PySem.W.isFn K (.ref f) = true)
    (h : wpAny (model prog w) A (call (.ref f) [.ref x, b]) (PySem.W.CmpBack Q) E s) : wpAny (model prog w) A (inplaceOp .Add (.ref x) b) Q E s := by
  unfold inplaceOp
  refine wpAny_holding (wpAny_bind (I.type.here (wpAny_bind ((no_inplace X hc hm hi).here ?_))))
  simp only [Bool.false_eq_true, if_false]
  refine wpAny_bind (m := binaryOp1 _ _ _) ?_
  unfold binaryOp1
  refine wpAny_bind (I.type.here (wpAny_bind (hb.here (wpAny_bind ((PySem.W.fills_K X hc hm hs).here ?_)))))
  simp only [beq_self_eq_true, if_true]
  refine wpAny_bind (wpAny_pure ?_)
  simp only [Bool.and_false, Bool.false_eq_true, if_false, Bool.false_and]
  refine wpAny_bind (wpAny_pure ?_)
  simp only [Bool.false_eq_true, if_false]
  refine wpAny_bind (m := tryMethod (.ref x) _ b) ?_
  unfold tryMethod
  refine wpAny_bind (PySem.W.special_fn X I hs (beq_iff_eq.mp hf) (wpAny_mono h (fun v s' hv => ?_) fun _ _ e => e))
  cases v <;> first | exact hv.elim | exact wpAny_pure (wpAny_pure (wpAny_pure hv))
end
section
variable {X : Cx} {CX : CXT} {f : Addr} {n : Nat} {sp : Sp} {E : XK}
def iAddOwn (K : PySem.W.Frag) (f : Addr) (sp : Sp) (E : XK) : TIp := fun x y H Q => ∃ a b C dx fs dy hs cd, x = .ref a ∧ y = .ref b ∧ H a = some (.ins C dx fs) ∧ H b = some (.ins C dy hs) ∧ PySem.W.clsIn K C = some cd ∧ cd.mro = [.ref C, .type "object"] ∧
  PySem.W.findIn K (.ref C) (PySem.dunderI "add") = some none ∧ PySem.W.findIn K (.ref C) "__add__" = some (some (.ref f)) ∧ PySem.W.isFn K (.ref f) = true ∧ sp [x, y] H (fun z H' => (∃ p, z = .ref p) ∧ Q z H') E
theorem ip_addOwn (F : FnR X.prog X.w X.K X.mg X.base CX n f sp) (hr : Room n X.A) (hx : Passes CX X E) : PIp X .Add (iAddOwn X.K f sp E) := fun pins s σ H x y v u Q I rx ry h => by
  obtain ⟨a, b, C, dx, fs, dy, hs, cd, rfl, rfl, ea, eb, hc, hm, hi, hfi, hf, q⟩ := h
  cases rx
  cases ry
  obtain ⟨_, O, _⟩ := ins_get I.hok ea
  obtain ⟨_, O', _⟩ := ins_get I.hok eb
  obtain ⟨od, J, _⟩ := O.look
  obtain ⟨od', J', _⟩ := O'.look
  refine iadd_K I.kIn J J'.type hc hm hi hfi hf ?_
  refine wpAny_mono (wpAny_call (run_fnR (us := [.ref a, .ref b]) (vs := [.ref a, .ref b]) F hr hx I (.cons rfl (.cons rfl .nil)) q)) (fun w s' z => ?_) fun _ _ x => x
  obtain ⟨z', H', J2, rz, ⟨p, ep⟩, qz⟩ := z
  subst ep
  cases (show w = Value.ref p from rz)
  exact ⟨.ref p, H', J2, rfl, qz⟩
end
end Own
end
section
/-! == and != of lists whose items are compared by an own __eq__: both answers. -/
namespace Own
open PySem PySem.SeqAt
open AutoSeq1 (wpAny_loadPart')
open MeetsSeq MeetsSeq2 MeetsSeq3 SeqRoads2
section
variable {prog : Program} {w : World} {A : Around} {R : Result → Shared → Prop}
def Two (l b : Addr) (N : Nat) (s : Shared) : Prop := ∃ (xs ys : Array Value) (n m : Nat), s.heap.get? l = some { cls := .type "list", data := .seq xs n } ∧ s.heap.get? b = some { cls := .type "list", data := .seq ys m } ∧ xs.size = N ∧ ys.size = N
def TwoI (prog : Program) (w : World) (A : Around) (R : Result → Shared → Prop) (ne : Bool) (l b : Addr) (N : Nat) (I : Nat → Shared → Prop) : Prop :=
  ∀ i s, I i s → ∃ (xs ys : Array Value) (n m : Nat), s.heap.get? l = some { cls := .type "list", data := .seq xs n } ∧ s.heap.get? b = some { cls := .type "list", data := .seq ys m } ∧ xs.size = N ∧ ys.size = N ∧
    ∀ (h1 : i < xs.size) (h2 : i < ys.size), wpAny (model prog w) A.in1 (eqBool xs[i] ys[i]) (fun r s' => (r = true ∧ I (i + 1) s') ∨ (r = false ∧ Two l b N s' ∧ R (.ok (.ret (.bool ne))) s')) (fun e s' => R (.error e) s') s
theorem loopEq (l b : Addr) (N : Nat) (I : Nat → Shared → Prop) (hl : TwoI prog w A R false l b N I) (fin : ∀ s, I N s → R (.ok (.ret (.bool true))) s) (k : Nat) :
    ∀ i : Nat, N - i = k → i ≤ N → ∀ s, I i s → wpAny (model prog w) A.in1 (Builtin.«list.__eq__.loop» ⟨[.ref l, .ref b, rawInt i, rawInt 2], []⟩) (GQ.FinOf prog w A R) (fun e s' => R (.error e) s') s := by
  induction k with
  | zero =>
    intro i hk hi s h
    obtain ⟨xs, ys, n, m, e1, e2, z1, z2, _⟩ := hl _ _ h
    have hi' : i = N := by omega
    have hR := fin s (hi' ▸ h)
    obtain ⟨hp, ge, dr, tk, os⟩ := s
    wp_walk using wpAny_loadPart' e1, wpAny_loadPart' e2
    have o1 : xs[((i : Nat) : Int).toNat]? = none := by simp; omega
    have o2 : ys[((i : Nat) : Int).toNat]? = none := by simp; omega
    rw [o1, o2]
    wp_walk using wpAny_loadPart' e1, wpAny_loadPart' e2
    show R (.ok (.ret (.bool (xs.size == ys.size)))) _
    rw [z1, z2]
    simpa using hR
  | succ k ih =>
    intro i hk hi s h
    obtain ⟨xs, ys, n, m, e1, e2, z1, z2, turn⟩ := hl _ _ h
    have lt1 : i < xs.size := by omega
    have lt2 : i < ys.size := by omega
    have ht := turn lt1 lt2
    obtain ⟨hp, ge, dr, tk, os⟩ := s
    wp_walk using wpAny_loadPart' e1, wpAny_loadPart' e2
    have o1 : xs[((i : Nat) : Int).toNat]? = some xs[i] := by simp [lt1]
    have o2 : ys[((i : Nat) : Int).toNat]? = some ys[i] := by simp [lt2]
    have hc : ((i : Int) + 1) = ((i + 1 : Nat) : Int) := by omega
    rw [o1, o2]
    refine wpAny_bind (wpAny_mono ht (fun r s2 h2 => ?_) fun _ _ x => x)
    rcases h2 with ⟨rfl, h2⟩ | ⟨rfl, ⟨us, vs, n', m', g1, g2, y1, y2⟩, h2⟩
    · have hrec := ih (i + 1) (by omega) (by omega) s2 h2
      obtain ⟨hp2, g2, d2, tk2, os2⟩ := s2
      wp_walk
      rw [hc]
      exact ⟨plainId_quiet plain_eq_loop _, codeAny_builtin entry_eq_loop (by
        rw [Around.under_plainId plain_eq_loop _]
        exact hrec)⟩
    · obtain ⟨hp2, ge2, d2, tk2, os2⟩ := s2
      have o3 : us[((i : Nat) : Int).toNat]? = some (us[i]'(by omega)) := by simp
      have o4 : vs[((i : Nat) : Int).toNat]? = some (vs[i]'(by omega)) := by simp
      wp_walk using wpAny_loadPart' g1, wpAny_loadPart' g2
      rw [o3, o4]
      wp_walk
      exact h2
theorem loopNe (l b : Addr) (N : Nat) (I : Nat → Shared → Prop) (hl : TwoI prog w A R true l b N I) (fin : ∀ s, I N s → R (.ok (.ret (.bool false))) s) (k : Nat) :
    ∀ i : Nat, N - i = k → i ≤ N → ∀ s, I i s → wpAny (model prog w) A.in1 (Builtin.«list.__eq__.loop» ⟨[.ref l, .ref b, rawInt i, rawInt 3], []⟩) (GQ.FinOf prog w A R) (fun e s' => R (.error e) s') s := by
  induction k with
  | zero =>
    intro i hk hi s h
    obtain ⟨xs, ys, n, m, e1, e2, z1, z2, _⟩ := hl _ _ h
    have hi' : i = N := by omega
    have hR := fin s (hi' ▸ h)
    obtain ⟨hp, ge, dr, tk, os⟩ := s
    wp_walk using wpAny_loadPart' e1, wpAny_loadPart' e2
    have o1 : xs[((i : Nat) : Int).toNat]? = none := by simp; omega
    have o2 : ys[((i : Nat) : Int).toNat]? = none := by simp; omega
    rw [o1, o2]
    wp_walk using wpAny_loadPart' e1, wpAny_loadPart' e2
    show R (.ok (.ret (.bool (xs.size != ys.size)))) _
    rw [z1, z2]
    simpa using hR
  | succ k ih =>
    intro i hk hi s h
    obtain ⟨xs, ys, n, m, e1, e2, z1, z2, turn⟩ := hl _ _ h
    have lt1 : i < xs.size := by omega
    have lt2 : i < ys.size := by omega
    have ht := turn lt1 lt2
    obtain ⟨hp, ge, dr, tk, os⟩ := s
    wp_walk using wpAny_loadPart' e1, wpAny_loadPart' e2
    have o1 : xs[((i : Nat) : Int).toNat]? = some xs[i] := by simp [lt1]
    have o2 : ys[((i : Nat) : Int).toNat]? = some ys[i] := by simp [lt2]
    have hc : ((i : Int) + 1) = ((i + 1 : Nat) : Int) := by omega
    rw [o1, o2]
    refine wpAny_bind (wpAny_mono ht (fun r s2 h2 => ?_) fun _ _ x => x)
    rcases h2 with ⟨rfl, h2⟩ | ⟨rfl, ⟨us, vs, n', m', g1, g2, y1, y2⟩, h2⟩
    · have hrec := ih (i + 1) (by omega) (by omega) s2 h2
      obtain ⟨hp2, g2, d2, tk2, os2⟩ := s2
      wp_walk
      rw [hc]
      exact ⟨plainId_quiet plain_eq_loop _, codeAny_builtin entry_eq_loop (by
        rw [Around.under_plainId plain_eq_loop _]
        exact hrec)⟩
    · obtain ⟨hp2, ge2, d2, tk2, os2⟩ := s2
      have o3 : us[((i : Nat) : Int).toNat]? = some (us[i]'(by omega)) := by simp
      have o4 : vs[((i : Nat) : Int).toNat]? = some (vs[i]'(by omega)) := by simp
      wp_walk using wpAny_loadPart' g1, wpAny_loadPart' g2
      rw [o3, o4]
      wp_walk
      exact h2
theorem listEq (l b : Addr) (N : Nat) (I : Nat → Shared → Prop) (hl : TwoI prog w A R false l b N I) (fin : ∀ s, I N s → R (.ok (.ret (.bool true))) s) {s : Shared} (h : I 0 s) :
    wpAny (model prog w) A.in1 (Builtin.«list.__eq__» ⟨[.ref l, .ref b], []⟩) (GQ.FinOf prog w A R) (fun e s' => R (.error e) s') s := by
  obtain ⟨xs, ys, n, m, e1, e2, z1, z2, _⟩ := hl _ _ h
  have hrec := loopEq (A := A) (R := R) l b N I hl fin _ 0 rfl (Nat.zero_le _) s h
  obtain ⟨hp, ge, dr, tk, os⟩ := s
  have f3 := AutoSeq1.sub_list_list
  have hne : ¬ (xs.size != ys.size) = true := by simp [z1, z2]
  wp_walk using wpAny_loadPart' e1, wpAny_loadPart' e2
  exact ⟨plainId_quiet plain_eq_loop _, codeAny_builtin entry_eq_loop (by
    rw [Around.under_plainId plain_eq_loop _]
    exact hrec)⟩
theorem listNe (l b : Addr) (N : Nat) (I : Nat → Shared → Prop) (hl : TwoI prog w A R true l b N I) (fin : ∀ s, I N s → R (.ok (.ret (.bool false))) s) {s : Shared} (h : I 0 s) :
    wpAny (model prog w) A.in1 (Builtin.«list.__ne__» ⟨[.ref l, .ref b], []⟩) (GQ.FinOf prog w A R) (fun e s' => R (.error e) s') s := by
  obtain ⟨xs, ys, n, m, e1, e2, z1, z2, _⟩ := hl _ _ h
  have hrec := loopNe (A := A) (R := R) l b N I hl fin _ 0 rfl (Nat.zero_le _) s h
  obtain ⟨hp, ge, dr, tk, os⟩ := s
  have f3 := AutoSeq1.sub_list_list
  have hne : ¬ (xs.size != ys.size) = true := by simp [z1, z2]
  wp_walk using wpAny_loadPart' e1, wpAny_loadPart' e2
  exact ⟨plainId_quiet plain_eq_loop _, codeAny_builtin entry_eq_loop (by
    rw [Around.under_plainId plain_eq_loop _]
    exact hrec)⟩
end
section
variable {prog : Program} {w : World} {A : Around} {E : Value → Shared → Prop} {s : Shared}
theorem rcEq {l b : Addr} {N : Nat} {Q : Value → Shared → Prop} (hu : A.units < cLine) (I : Nat → Shared → Prop) (hl : TwoI prog w A (wants (fun v s' => v ≠ .notImplemented ∧ Q v s') E) false l b N I)
    (fin : ∀ s, I N s → Q (.bool true) s) (h : I 0 s) : wpAny (model prog w) A (richCompare .Eq (.ref l) (.ref b)) Q E s := by
  obtain ⟨xs, ys, n, m, e1, e2, _⟩ := hl _ _ h
  refine wpAny_richCompare_same_room (op := .Eq) ⟨_, e1, rfl⟩ ⟨_, e2, rfl⟩ F.slot_list_eq (GQ.call_here F.slot_list_eq ⟨_, e1, rfl⟩ F.entry_list_eq (F.args_list_eq_2 _ _) ?_) hu
  exact listEq l b N I hl (fun s' q => ⟨(fun x => nomatch x), fin s' q⟩) h
theorem rcNe {l b : Addr} {N : Nat} {Q : Value → Shared → Prop} (hu : A.units < cLine) (I : Nat → Shared → Prop) (hl : TwoI prog w A (wants (fun v s' => v ≠ .notImplemented ∧ Q v s') E) true l b N I)
    (fin : ∀ s, I N s → Q (.bool false) s) (h : I 0 s) : wpAny (model prog w) A (richCompare .NotEq (.ref l) (.ref b)) Q E s := by
  obtain ⟨xs, ys, n, m, e1, e2, _⟩ := hl _ _ h
  refine wpAny_richCompare_same_room (op := .NotEq) ⟨_, e1, rfl⟩ ⟨_, e2, rfl⟩ F.slot_list_ne (GQ.call_here F.slot_list_ne ⟨_, e1, rfl⟩ F.entry_list_ne (F.args_list_ne_2 _ _) ?_) hu
  exact listNe l b N I hl (fun s' q => ⟨(fun x => nomatch x), fin s' q⟩) h
end
end Own
end
section
/-! == and != of lists of own things, as rules: both answers. -/
namespace Own
open PySem PySem.Spec PyProof.Rows L2
/-- what == of two values answers, by the abstract heap -/
abbrev EqvB := V → V → Hp → Bool → Prop
def MonB (D : EqvB) : Prop := ∀ x y H H' r, Ext H H' → D x y H r → D x y H' r
def EqB (X : Cx) (n : Nat) (D : EqvB) : Prop :=
  ∀ (A : Around) (pins : List (Addr × Obj)) (s : Shared) (σ : L2.St) (H : Hp) (x y : V) (u v : Value) (r : Bool), Sub X n A → Inv X pins σ H s → RelV x u → RelV y v → D x y H r →
    wpAny (model X.prog X.w) A (eqBool u v) (fun c s' => c = r ∧ LoopI X pins σ H s') X.xe s
def rLB (D : EqvB) (f : Bool → Bool) : R2 := fun x y H Q => ∃ (a b : Addr) (xs ys : List V) (rs : List Bool), x = .ref a ∧ y = .ref b ∧ H a = some (.lst xs) ∧ H b = some (.lst ys) ∧ xs.length = ys.length ∧ rs.length = xs.length ∧
  (∀ (i : Nat) (x y : V), xs[i]? = some x → ys[i]? = some y → ∃ r, rs[i]? = some r ∧ D x y H r) ∧ ∀ H', Ext H H' → Q (.bl (f (rs.all id))) H'
theorem all_true {rs : List Bool} (h : ∀ j, j < rs.length → rs[j]? = some true) : rs.all id = true := by
  refine List.all_eq_true.mpr fun x hx => ?_
  obtain ⟨j, hj⟩ := List.getElem?_of_mem hx
  have hl := (List.getElem?_eq_some_iff.mp hj).1
  rw [h j hl] at hj
  cases hj
  rfl
theorem all_false {rs : List Bool} {j : Nat} (h : rs[j]? = some false) : rs.all id = false := by
  refine List.all_eq_false.mpr ⟨false, List.mem_of_getElem? h, by simp⟩
section
variable {X : Cx} {n : Nat} {D : EqvB}
theorem turnB (hD : MonB D) (h : EqB X n D) {A : Around} (sb : Sub X (n + 1) A) {pins : List (Addr × Obj)} {σ : L2.St} {H : Hp} {xs ys : List V} {rs : List Bool} {its its2 : List Value} (hp : ∀ (i : Nat) (x y : V), xs[i]? = some x → ys[i]? = some y → ∃ r, rs[i]? = some r ∧ D x y H r) (r : Vals xs its) (r2 : Vals ys its2)
    (i : Nat) (h1 : i < its.toArray.size) (h2 : i < its2.toArray.size) (s' : Shared) (l : LoopI X pins σ H s') :
    wpAny (model X.prog X.w) A.in1 (eqBool its.toArray[i] its2.toArray[i]) (fun c s2 => rs[i]? = some c ∧ LoopI X pins σ H s2) X.xe s' := by
  obtain ⟨H1, I1, e1⟩ := l
  have l1 : i < its.length := by simpa using h1
  have l2 : i < its2.length := by simpa using h2
  have k1 : i < xs.length := by rw [r.length]; exact l1
  have k2 : i < ys.length := by rw [r2.length]; exact l2
  obtain ⟨u, hu, ru⟩ := r.get (List.getElem?_eq_getElem k1)
  obtain ⟨v, hv, rv⟩ := r2.get (List.getElem?_eq_getElem k2)
  have eu : its.toArray[i] = u := by
    rw [List.getElem?_eq_getElem l1] at hu
    simpa using Option.some.inj hu
  have ev : its2.toArray[i] = v := by
    rw [List.getElem?_eq_getElem l2] at hv
    simpa using Option.some.inj hv
  rw [eu, ev]
  obtain ⟨c, hc, d⟩ := hp i _ _ (List.getElem?_eq_getElem k1) (List.getElem?_eq_getElem k2)
  refine wpAny_mono (h A.in1 pins s' σ H1 _ _ u v c sb.in1 I1 ru rv (hD _ _ _ _ _ e1 d)) (fun c' s2 q => ?_) fun _ _ x => x
  obtain ⟨rfl, H2, I2, e2⟩ := q
  exact ⟨hc, H2, I2, e1.trans e2⟩
theorem two_of {pins : List (Addr × Obj)} {σ : L2.St} {H : Hp} {a b : Addr} {xs ys : List V} {s : Shared} (ha : H a = some (.lst xs)) (hb : H b = some (.lst ys)) (hl : xs.length = ys.length) (l : LoopI X pins σ H s) : Two a b xs.length s := by
  obtain ⟨H1, I1, e1⟩ := l
  obtain ⟨z, its, k, r, e⟩ := I1.hok a _ (e1 _ _ ha)
  obtain ⟨z2, its2, k2, r2, e2⟩ := I1.hok b _ (e1 _ _ hb)
  exact ⟨its.toArray, its2.toArray, k, k2, e, e2, by rw [List.size_toArray, ← r.length], by rw [List.size_toArray, ← r2.length, hl]⟩
theorem op_eqLB (hD : MonB D) (h : EqB X n D) (hr : Room (n + 1) X.A) : OpR X (compareOp .Eq) (rLB D id) := fun pins s σ H x y v u Q I rx ry hq => by
  obtain ⟨a, b, xs, ys, rs, rfl, rfl, ha, hb, hl, hz, hp, q⟩ := hq
  cases rx
  cases ry
  show wpAny (model X.prog X.w) X.A (richCompare .Eq (.ref a) (.ref b)) (EP X pins σ Q) X.xe s
  have sb : Sub X (n + 1) X.A := ⟨hr, rfl⟩
  refine rcEq (N := xs.length) hr.units0 (fun i s' => (∀ j, j < i → rs[j]? = some true) ∧ LoopI X pins σ H s') (fun i s' w' => ?_) (fun s' w' => ?_) ⟨fun j hj => absurd hj (Nat.not_lt_zero _), H, I, Ext.rfl'⟩
  · obtain ⟨hall, H1, I1, e1⟩ := id w'
    obtain ⟨z, its, k, r, e⟩ := I1.hok a _ (e1 _ _ ha)
    obtain ⟨z2, its2, k2, r2, e2⟩ := I1.hok b _ (e1 _ _ hb)
    refine ⟨its.toArray, its2.toArray, k, k2, e, e2, by rw [List.size_toArray, ← r.length], by rw [List.size_toArray, ← r2.length, hl], fun h1 h2 => ?_⟩
    refine wpAny_mono (turnB hD h sb hp r r2 i h1 h2 s' w'.2) (fun c s2 q2 => ?_) fun _ _ x => x
    obtain ⟨hc, lp⟩ := q2
    cases c with
    | true => exact .inl ⟨rfl, fun j hj => (Nat.lt_succ_iff_lt_or_eq.mp hj).elim (hall j) fun ej => by rw [ej]; exact hc, lp⟩
    | false =>
      obtain ⟨H2, I2, x2⟩ := id lp
      have z := q H2 x2
      rw [all_false hc] at z
      have ep : EP X pins σ Q (.bool false) s2 := ⟨.bl false, H2, I2, rfl, z⟩
      exact .inr ⟨rfl, two_of ha hb hl lp, ⟨(fun x => nomatch x), ep⟩⟩
  · obtain ⟨hall, H1, I1, e1⟩ := w'
    have z := q H1 e1
    rw [all_true fun j hj => hall j (by omega)] at z
    exact ⟨.bl true, H1, I1, rfl, z⟩
theorem op_neLB (hD : MonB D) (h : EqB X n D) (hr : Room (n + 1) X.A) : OpR X (compareOp .NotEq) (rLB D not) := fun pins s σ H x y v u Q I rx ry hq => by
  obtain ⟨a, b, xs, ys, rs, rfl, rfl, ha, hb, hl, hz, hp, q⟩ := hq
  cases rx
  cases ry
  show wpAny (model X.prog X.w) X.A (richCompare .NotEq (.ref a) (.ref b)) (EP X pins σ Q) X.xe s
  have sb : Sub X (n + 1) X.A := ⟨hr, rfl⟩
  refine rcNe (N := xs.length) hr.units0 (fun i s' => (∀ j, j < i → rs[j]? = some true) ∧ LoopI X pins σ H s') (fun i s' w' => ?_) (fun s' w' => ?_) ⟨fun j hj => absurd hj (Nat.not_lt_zero _), H, I, Ext.rfl'⟩
  · obtain ⟨hall, H1, I1, e1⟩ := id w'
    obtain ⟨z, its, k, r, e⟩ := I1.hok a _ (e1 _ _ ha)
    obtain ⟨z2, its2, k2, r2, e2⟩ := I1.hok b _ (e1 _ _ hb)
    refine ⟨its.toArray, its2.toArray, k, k2, e, e2, by rw [List.size_toArray, ← r.length], by rw [List.size_toArray, ← r2.length, hl], fun h1 h2 => ?_⟩
    refine wpAny_mono (turnB hD h sb hp r r2 i h1 h2 s' w'.2) (fun c s2 q2 => ?_) fun _ _ x => x
    obtain ⟨hc, lp⟩ := q2
    cases c with
    | true => exact .inl ⟨rfl, fun j hj => (Nat.lt_succ_iff_lt_or_eq.mp hj).elim (hall j) fun ej => by rw [ej]; exact hc, lp⟩
    | false =>
      obtain ⟨H2, I2, x2⟩ := id lp
      have z := q H2 x2
      rw [all_false hc] at z
      have ep : EP X pins σ Q (.bool true) s2 := ⟨.bl true, H2, I2, rfl, z⟩
      exact .inr ⟨rfl, two_of ha hb hl lp, ⟨(fun x => nomatch x), ep⟩⟩
  · obtain ⟨hall, H1, I1, e1⟩ := w'
    have z := q H1 e1
    rw [all_true fun j hj => hall j (by omega)] at z
    exact ⟨.bl false, H1, I1, rfl, z⟩
/-- two instances whose own __eq__ is at ge and answers as Rb says (a thing is equal to itself) -/
def DInsB (K : PySem.W.Frag) (ge : Addr) (Rb : Addr → Addr → Hp → Bool → Prop) : EqvB := fun x y H r => ∃ a b C dx fs D' dy hs gs, x = .ref a ∧ y = .ref b ∧ H a = some (.ins C dx fs) ∧ H b = some (.ins D' dy hs) ∧ OwnC K C gs ge ∧ OwnC K D' gs ge ∧ PySem.W.notFirst K C (.ref D') = true ∧ Rb a b H r ∧ (a = b → r = true)
theorem mon_insB {K : PySem.W.Frag} {ge : Addr} {Rb : Addr → Addr → Hp → Bool → Prop} (hR : ∀ a b H H' r, Ext H H' → Rb a b H r → Rb a b H' r) : MonB (DInsB K ge Rb) := fun x y H H' r e d => by
  obtain ⟨a, b, C, dx, fs, D', dy, hs, gs, h1, h2, h3, h4, h5, h6, h7, h8, h9⟩ := d
  exact ⟨a, b, C, dx, fs, D', dy, hs, gs, h1, h2, e _ _ h3, e _ _ h4, h5, h6, h7, hR _ _ _ _ _ e h8, h9⟩
def spEqB (Rb : Addr → Addr → Hp → Bool → Prop) : Sp := fun vs H Q _ => ∃ a b r, vs = [.ref a, .ref b] ∧ Rb a b H r ∧ ∀ H', Ext H H' → Q (.bl r) H'
theorem eqB_ins {CX : CXT} {ge : Addr} {sp : Sp} {Rb : Addr → Addr → Hp → Bool → Prop} {E : XK} (F : FnR X.prog X.w X.K X.mg X.base CX n ge sp) (hsp : ∀ vs H Q, spEqB Rb vs H Q E → sp vs H Q E) (hx : Passes CX X E) : EqB X n (DInsB X.K ge Rb) := by
  intro A pins s σ H x y u v r sb I rx ry d
  obtain ⟨a, b, C, dx, fs, D', dy, hs, gs, rfl, rfl, ha, hb, cO, dO, hn, hR, hsame⟩ := d
  cases rx
  cases ry
  by_cases hab : a = b
  · subst hab
    rw [hsame rfl]
    exact SeqAt.EqAt.same (A := A) (s := s) (.ref a) X.prog X.w X.xe _ ⟨rfl, H, I, Ext.rfl'⟩
  · refine GQ.eqBool_refG hab ?_
    obtain ⟨_, O, _⟩ := ins_get I.hok ha
    obtain ⟨_, O', _⟩ := ins_get I.hok hb
    obtain ⟨od, J, _⟩ := O.look
    obtain ⟨od', J', _⟩ := O'.look
    obtain ⟨m, hF⟩ := I.fr
    have e0 : Env0 X.prog X.w X.K X.mg X.base A X.stack s H := by
      have e := I.env0
      exact ⟨by rw [sb.fr]; exact e.frames, e.mod, e.bs, e.bsz, e.funs, e.frf, e.hok, e.bare⟩
    refine PySem.W.cmp_K (op := .Eq) (tb := .ref D') sb.room.units0 hF I.ok.mod.kin J J'.type hn cO.eq cO.eqf ?_
    refine wpAny_mono (wpAny_call (run_at (us := [.ref a, .ref b]) (ws := [.ref a, .ref b]) (Q := fun z H' => z = .bl r ∧ Ext H H') F sb.room e0 hx I (.cons rfl (.cons rfl .nil)) (hsp _ _ _ ⟨a, b, r, rfl, hR, fun H' e => ⟨rfl, e⟩⟩))) (fun w s' z => ?_) fun _ _ x => x
    obtain ⟨z', H', I', rz, ez, ex⟩ := z
    subst ez
    cases (show w = Value.bool r from rz)
    exact ⟨r, rfl, rfl, H', I', ex⟩
end
end Own
end
section
/-! zip of a tuple and a list. -/
namespace Own
open PySem PySem.Spec PyProof.Rows L2
theorem sep2_apart {z TI TO i1 i2 a b : Addr} (D : ZipApart z TI TO i1 i2 a b) : ZipSep2 z TI TO i1 i2 [i1, a] [i2, b] where
  TIz := D.TIz
  TOz := D.TOz
  TITO := D.TITO
  TIi1 := D.TIi1
  mem1 := by simp
  zf1 := by simp; exact ⟨D.i1z.symm, D.l1z.symm⟩
  Tf1 := by simp; exact ⟨D.TOi1, D.l1TO.symm⟩
  TIi2 := D.TIi2
  mem2 := by simp
  zf2 := by simp; exact ⟨D.i2z.symm, D.l2z.symm⟩
  Tf2 := by simp; exact ⟨D.TOi2, D.l2TO.symm⟩
  sep1_2 := by simp; exact ⟨D.i12, D.l2i1.symm⟩
  sep2_1 := by simp; exact ⟨D.i12.symm, D.l1i2.symm⟩
/-- the tuple at a and the list at b as they stand at each turn, the items in new pairs -/
def ItzM (K : PySem.W.Frag) (a b : Addr) : It :=
  ⟨fun i H => ∃ (xs ys : List V) (x y : V), SqT K H a xs ∧ SqL K H b ys ∧ xs[i]? = some x ∧ ys[i]? = some y,
    fun i H v H' => ∃ T x y, v = .ref T ∧ H T = none ∧ H' = upd H T (.tup [x, y]) ∧ (∀ xs, SqT K H a xs → xs[i]? = some x) ∧ ∀ ys, SqL K H b ys → ys[i]? = some y,
    fun i H => ∃ xs ys : List V, SqT K H a xs ∧ SqL K H b ys ∧ i ≤ xs.length ∧ i ≤ ys.length ∧ (i = xs.length ∨ i = ys.length)⟩
theorem turn_zipM {P : Program} {w : World} {K : PySem.W.Frag} {elts : List Expr} {kk : Nat} {tpos : Pos} {a b z TI TO i1 i2 : Addr} (D : ZipApart z TI TO i1 i2 a b) :
    Turn P w K (.Tuple elts kk tpos) (ItzM K a b) [z, TI, TO, i1, i2] z (fun i h => IsZip h z TI TO .none ∧ IsTupOf2 h TI (.ref i1) (.ref i2) ∧ (∃ x y, IsTupOf2 h TO x y) ∧ h.IsTupleIter i1 a i ∧ h.IsListIter i2 b i) where
  mem := by simp
  obj := fun i h st c hc => by
    obtain ⟨hz, hTI, ⟨x, y, hTO⟩, ⟨o1, e1, _, d1⟩, ⟨o2, e2, _, d2⟩⟩ := st
    have e' : c = z ∨ c = TI ∨ c = TO ∨ c = i1 ∨ c = i2 := by simpa using hc
    rcases e' with q | q | q | q | q
    · rw [q]; exact ⟨_, hz, fun v q => nomatch q⟩
    · rw [q]; exact ⟨_, hTI, fun v q => nomatch q⟩
    · rw [q]; exact ⟨_, hTO, fun v q => nomatch q⟩
    · rw [q]; exact ⟨o1, e1, fun v q => by rw [d1] at q; cases q⟩
    · rw [q]; exact ⟨o2, e2, fun v q => by rw [d2] at q; cases q⟩
  keep := fun i h h' st k => by
    obtain ⟨hz, hTI, ⟨x, y, hTO⟩, h1, h2⟩ := st
    obtain ⟨o, ho, hr⟩ := h1
    exact ⟨k z (by simp) _ hz, k TI (by simp) _ hTI, ⟨x, y, k TO (by simp) _ hTO⟩, ⟨o, k i1 (by simp) o ho, hr⟩, h2.at fun o q => k i2 (by simp) o q⟩
  item := by
    intro X hP hw hK hc i pins s σ H E I hf st hg
    subst hP hw hK
    obtain ⟨hz, hTI, ⟨x0, y0, hTO⟩, h1, h2⟩ := st
    obtain ⟨xs, ys, x, y, hqx, hqy, hx, hy⟩ := hg
    obtain ⟨its, rv, p, _⟩ := I.tuple hqx
    obtain ⟨its2, rv2, p2, _⟩ := I.list hqy
    obtain ⟨u, hu, ru⟩ := rv.get hx
    obtain ⟨u2, hu2, ru2⟩ := rv2.get hy
    have hzl : z < s.heap.objs.size := Heap.lt_size hz
    have D1 := Draws.tuple (prog := X.prog) (w := X.w) (A := X.A.in1) (show X.A.in1.handled = none from I.ok.hd hc) i1 a D.l1i1 its.toArray
    have D2 := Draws.list (prog := X.prog) (w := X.w) (A := X.A.in1) (show X.A.in1.handled = none from I.ok.hd hc) i2 b D.l2i2 its2.toArray
    have lt1 : i < its.toArray.size := by
      have q := (List.getElem?_eq_some_iff.mp hu).1
      simpa using q
    have lt2 : i < its2.toArray.size := by
      have q := (List.getElem?_eq_some_iff.mp hu2).1
      simpa using q
    refine wpAny_pyNext_zipD2_item (sep2_apart D) D1 D2 hz hTI hTO ⟨h1, p⟩ ⟨h2, p2.isList⟩ lt1 lt2 fun v1 v2 h' tk y1 y2 z' TO' st1 st2 hT hsz hk => ?_
    have ey1 : v1 = u := by
      have q : its.toArray[i]? = some u := by simpa using hu
      exact Option.some.inj (y1.symm.trans q)
    have ey2 : v2 = u2 := by
      have q : its2.toArray[i]? = some u2 := by simpa using hu2
      exact Option.some.inj (y2.symm.trans q)
    subst ey1 ey2
    refine ⟨_, rfl, wpAny_letOwnedTupleGo_zip (s := { s with heap := h', toks := tk }) z' fun h'' z'' sb => ?_⟩
    have hT2 : h''.get? s.heap.objs.size = some { cls := .type "tuple", data := .seq #[v1, v2] } := (sb.2 _ (Nat.ne_of_gt hzl)).trans hT
    have new : ObjOk X.prog X.w (upd H s.heap.objs.size (.tup [x, y])) h'' s.heap.objs.size (.tup [x, y]) :=
      ⟨by show 2 ≤ sizeLine; decide, [v1, v2], .cons ru (.cons ru2 .nil), ⟨_, hT2, rfl, _, rfl⟩⟩
    have I1 : Inv X pins σ (upd H s.heap.objs.size (.tup [x, y])) { s with heap := h'', toks := tk } :=
      I.turnedNew (t' := tk) (ch := [z, TI, TO, i1, i2]) (fun c o hb q => (sb.2 c (fun q' => hb (by simp [q']))).trans (hk c o (fun q' => hb (by simp [q'])) (fun q' => hb (by simp [q'])) (fun q' => hb (by simp [q'])) (fun q' => hb (by simp [q'])) q)) hf (Nat.le_refl _) new
    refine ⟨.ref s.heap.objs.size, _, I1, rfl, ⟨_, x, y, rfl, I.hok.fresh (Nat.le_refl _), rfl, fun l hl => by rw [I.tuple_inj hl hqx]; exact hx, fun l hl => by rw [I.list_inj hl hqy]; exact hy⟩, ⟨z'', ?_, ⟨v1, v2, ?_⟩, ?_, ?_⟩, fun c hcm => ?_⟩
    · exact (sb.2 _ D.TIz).trans (hk _ _ D.TIz D.TITO D.TIi1 D.TIi2 hTI)
    · exact (sb.2 _ D.TOz).trans TO'
    · obtain ⟨o, ho, hr⟩ := st1.1
      exact ⟨o, (sb.2 _ D.i1z).trans ho, hr⟩
    · exact st2.1.at fun o q => (sb.2 _ D.i2z).trans q
    · have hlt : c < s.heap.objs.size := by
        have e' : c = z ∨ c = TI ∨ c = TO ∨ c = i1 ∨ c = i2 := by simpa using hcm
        rcases e' with q | q | q | q | q
        · rw [q]; exact hzl
        · rw [q]; exact Heap.lt_size hTI
        · rw [q]; exact Heap.lt_size hTO
        · rw [q]; obtain ⟨_, e1, _⟩ := h1; exact Heap.lt_size e1
        · rw [q]; obtain ⟨_, e2, _⟩ := h2; exact Heap.lt_size e2
      rw [upd_ne (Nat.ne_of_lt hlt)]
      exact (hf c hcm).1
  done := by
    intro X hP hw hK hc i pins s σ H E I hf st hg
    subst hP hw hK
    obtain ⟨hz, hTI, ⟨x0, y0, hTO⟩, h1, h2⟩ := st
    obtain ⟨xs, ys, hqx, hqy, le1, le2, hend⟩ := hg
    obtain ⟨its, rv, p, _⟩ := I.tuple hqx
    obtain ⟨its2, rv2, p2, _⟩ := I.list hqy
    have l1 := rv.length
    have l2 := rv2.length
    have D1 := Draws.tuple (prog := X.prog) (w := X.w) (A := X.A.in1) (show X.A.in1.handled = none from I.ok.hd hc) i1 a D.l1i1 its.toArray
    have D2 := Draws.list (prog := X.prog) (w := X.w) (A := X.A.in1) (show X.A.in1.handled = none from I.ok.hd hc) i2 b D.l2i2 its2.toArray
    exact wpAny_pyNext_zipD2_end (sep2_apart D) D1 D2 hz hTI hTO ⟨h1, p⟩ ⟨h2, p2.isList⟩ (by simp; omega) (by simp; omega) (by simp; omega) fun h' tk hk => ⟨rfl, I.turnedL (t' := tk) (ch := [z, TI, TO, i1, i2]) (fun c o hb q =>
      hk c o (fun q' => hb (by simp [q'])) (fun q' => hb (by simp [q'])) (fun q' => hb (by simp [q'])) (fun q' => hb (by simp [q'])) q) hf⟩
  self := fun A i s Q E st h => wpAny_pyIter_zip st.1 h
def iZipM (K : PySem.W.Frag) (ta : TA) : TI := fun σ H R => ta σ H fun vs H1 => ∃ a b xs ys, vs = [.ref a, .ref b] ∧ SqT K H1 a xs ∧ SqL K H1 b ys ∧ R (ItzM K a b) H1
theorem pi_zipM {X : Cx} {e e2 : Expr} {ta : TA} {p pos tpos : Pos} {elts : List Expr} {kk : Nat} (hg : Gl X "zip") (hm : X.mg "zip" = none) (ha : PA X [e, e2] ta)
    (hs : starEach [e, e2] X.env = (false, eval e X.env) :: starEach [e2] X.env := by rfl) (hpl : (backTo pos (starEach [e2] X.env)).any (·.1) = false := by rfl) :
    PI X (.Tuple elts kk tpos) (.Call (.Name "zip" p) [e, e2] [] pos) (iZipM X.K ta) := by
  refine ⟨fun pins s σ H R I h => ?_⟩
  refine Call_ (ld_blt I hg hm PyProof.Rows.boot_zip (PyProof.Rows.callWith_type1 (thn (ha.run pos pins s σ H _ I h) fun us s1 ⟨vs, H1, I1, r1, q1⟩ => ?_) hs hpl))
  obtain ⟨a, b, xs, ys, ex, hqx, hqy, q⟩ := q1
  subst ex
  cases r1 with
  | cons r rr =>
    cases rr with
    | cons r' rr =>
      cases rr
      cases r
      cases r'
      obtain ⟨its, rv, p1, _⟩ := I1.tuple hqx
      obtain ⟨its2, rv2, p2, _⟩ := I1.list hqy
      have la : a < s1.heap.objs.size := by obtain ⟨o, ho, _⟩ := id p1; exact Heap.lt_size ho
      have lb : b < s1.heap.objs.size := p2.lt
      refine zip_begins2 (begins_tuple a its.toArray) (begins_list b its2.toArray) p1 p2.isList fun h' hz hTI hTO h1 h2 hsz hk => wpAny_pyIter_zip hz ?_
      have I2 : Inv X pins σ H1 { s1 with heap := h' } := I1.kept (t' := s1.toks) hk
      refine ⟨s1.heap.objs.size + 4, [s1.heap.objs.size + 4, s1.heap.objs.size + 2, s1.heap.objs.size + 3, s1.heap.objs.size, s1.heap.objs.size + 1], _, _, H1, rfl, I2, turn_zipM (PySem.W.ktu_apart s1.heap.objs.size a b la lb), ⟨hz, hTI, ⟨_, _, hTO⟩, ⟨_, h1, rfl, rfl⟩, ⟨_, h2, rfl, rfl⟩⟩, fun c hcm => ?_, q⟩
      have e' : c = s1.heap.objs.size + 4 ∨ c = s1.heap.objs.size + 2 ∨ c = s1.heap.objs.size + 3 ∨ c = s1.heap.objs.size ∨ c = s1.heap.objs.size + 1 := by simpa using hcm
      have hle : s1.heap.objs.size ≤ c := by
        rcases e' with z | z | z | z | z
        · rw [z]; exact Nat.le_add_right _ _
        · rw [z]; exact Nat.le_add_right _ _
        · rw [z]; exact Nat.le_add_right _ _
        · rw [z]; exact Nat.le_refl _
        · rw [z]; exact Nat.le_add_right _ _
      exact I1.fpOk hle (I1.hok.fresh hle)
theorem lc_zipM {K : PySem.W.Frag} {a b : Addr} {xs ys : List V} {g : TG} {tt : TT} {te : TE} {vs : List Nat} {σ : L2.St} {H1 : Hp} {D : Addr} {Qd : Hp → Prop} (he : xs.length = ys.length) (Pv : Nat → Hp → Prop) (h0 : Pv 0 (upd H1 D (.lst []))) (hl : ∀ i H, i ≤ xs.length → Pv i H → SqT K H a xs ∧ SqL K H b ys)
    (hs : ∀ i x y T H, xs[i]? = some x → ys[i]? = some y → Pv i H → H T = none → g (.ref T) (wipe σ vs) (upd H T (.tup [x, y])) fun σ2 H2 => wipe σ2 vs = wipe σ vs ∧ tt σ2 H2 fun b H3 =>
      if b = true then te σ2 H3 fun y H4 => ∃ acc, H4 D = some (.lst acc) ∧ acc.length < sizeLine ∧ Pv (i + 1) (upd H4 D (.lst (acc ++ [y]))) else Pv (i + 1) H3) (hd : ∀ H, Pv xs.length H → Qd H) :
    ∃ W : Nat → Nat → Hp → Prop, (∃ m, W 0 m (upd H1 D (.lst []))) ∧ ∀ i m H, W i m H →
      ((ItzM K a b).stop i H ∧ Qd H) ∨ ((ItzM K a b).go i H ∧ ∃ Nx : Hp → Prop, (∀ H', Nx H' → ∃ m', m' < m ∧ W (i + 1) m' H') ∧ ∀ x H', (ItzM K a b).yld i H x H' → g x (wipe σ vs) H' fun σ2 H2 => wipe σ2 vs = wipe σ vs ∧ tt σ2 H2 fun b H3 =>
        if b = true then te σ2 H3 fun y H4 => ∃ acc, H4 D = some (.lst acc) ∧ acc.length < sizeLine ∧ Nx (upd H4 D (.lst (acc ++ [y]))) else Nx H3) := by
  refine ⟨fun i m H => m = xs.length - i ∧ i ≤ xs.length ∧ Pv i H, ⟨xs.length, by simp, Nat.zero_le _, h0⟩, ?_⟩
  rintro i m H ⟨rfl, hi, p⟩
  obtain ⟨q1, q2⟩ := hl i H hi p
  by_cases hlt : i < xs.length
  · have hlt2 : i < ys.length := by omega
    refine .inr ⟨⟨xs, ys, xs[i], ys[i], q1, q2, List.getElem?_eq_getElem hlt, List.getElem?_eq_getElem hlt2⟩, Pv (i + 1), fun H' p' => ⟨xs.length - (i + 1), by omega, rfl, hlt, p'⟩, fun v H' y => ?_⟩
    obtain ⟨T, x', y', rfl, hT, rfl, f1, f2⟩ := y
    exact hs i x' y' T H (f1 xs q1) (f2 ys q2) p hT
  · have e : i = xs.length := by omega
    subst e
    exact .inl ⟨⟨xs, ys, q1, q2, Nat.le_refl _, by omega, .inl rfl⟩, hd H p⟩
end Own
end
section
/-! a if t else b, as a test. -/
namespace Own
open PySem PySem.Spec PyProof.Rows L2
def tIfT (t ta tb : TT) : TT := fun σ H Q => t σ H fun c H1 => if c = true then ta σ H1 Q else tb σ H1 Q
theorem pt_ifExp {X : Cx} {c a b : Expr} {pos : Pos} {t ta tb : TT} (hc : PT X c t) (ha : PT X a ta) (hb : PT X b tb) : PT X (.IfExp c a b pos) (tIfT t ta tb) := by
  refine ⟨fun pins s σ H Q I h => ?_⟩
  refine isTrue_IfExp (thn (hc.run pins s σ H _ I h) fun d s1 q => ?_)
  obtain ⟨H1, I1, q1⟩ := q
  cases d with
  | true => exact ha.run pins s1 σ H1 Q I1 q1
  | false => exact hb.run pins s1 σ H1 Q I1 q1
end Own
end
section
/-! x in (a text, a tuple, None), x of an own class whose __eq__ says no: the reflected comparison. -/
namespace Own
open PySem PySem.Spec PyProof.Rows L2 PySem.SeqAt
open AutoSeq1 (wpAny_loadPart')
open MeetsSeq MeetsSeq2 MeetsSeq3 SeqRoads2
section
variable {prog : Program} {w : World} {A : Around} {E : Value → Shared → Prop} {s : Shared} {K : PySem.W.Frag} {x C f : Addr} {od : Option Obj}
theorem str_dec (b : Str) (u : Tok) (x : Addr) (cl : Value) (dx : Option Addr) :
    Meets (Builtin.«str.__eq__» ⟨[.str b u, .ref x], []⟩) (fun _ R s => s.heap.get? x = some { cls := cl, dict := dx, data := .plain } ∧ R (.ok (.ret .notImplemented)) s) :=
  .of_wp fun prog w A R s h => by obtain ⟨hp, g, d, tk, os⟩ := s; obtain ⟨hl, h⟩ := h; wp_walk using wpAny_load hl; exact ⟨_, rfl, h⟩
theorem tup_dec (l x : Addr) (T : Shared → Prop) (hT : ∀ s, T s → ∀ {Aa : Around} {Ee : Value → Shared → Prop} {Qq : Bool → Shared → Prop}, Qq false s → wpAny (model prog w) Aa (isInstance (.ref x) (.type "tuple")) Qq Ee s) :
    MeetsIn prog w (Builtin.«tuple.__eq__» ⟨[.ref l, .ref x], []⟩) (fun _ R s => T s ∧ R (.ok (.ret .notImplemented)) s) := by
  intro A R s h
  obtain ⟨ht, h⟩ := h
  have it : ∀ {Aa : Around} {Ee : Value → Shared → Prop} {Qq : Bool → Shared → Prop}, Qq false s → wpAny (model prog w) Aa (isInstance (.ref x) (.type "tuple")) Qq Ee s := fun {_ _ _} q => hT s ht q
  obtain ⟨hp, g, d, tk, os⟩ := s
  wp_walk using it
  exact h
/-- == whose left side declines: the right side's own __eq__ -/
theorem rc_refl {a : Value} {T id : String} {Q : Value → Shared → Prop} (hu : A.units < cLine) (X : K.In s.heap) (I : PySem.W.InstAt s.heap x (PySem.W.instObj C dx) C od) (ht : s.TypeIs a T) (hn : PySem.W.mroIn K C (.type T) = some false) (sl : Slot T "__eq__" id)
    (hd : ∀ {Q : Value → Shared → Prop}, Q .notImplemented s → wpAny (model prog w) A (call (.builtin id) [a, .ref x]) Q E s) (he : PySem.W.findIn K (.ref C) "__eq__" = some (some (.ref f))) (hf : PySem.W.isFn K (.ref f) = true)
    (h : wpAny (model prog w) A (call (.ref f) [.ref x, a]) (PySem.W.CmpBack Q) E s) : wpAny (model prog w) A (richCompare .Eq a (.ref x)) Q E s := by
  unfold richCompare
  simp only [ht.oneThing_none]
  refine wpAny_holding (wpAny_bind (wpAny_cRoomFor hu ?_))
  refine wpAny_bind (wpAny_typeOf ht (wpAny_bind (I.type.here ?_)))
  have hne : (Value.type T != Value.ref C) = true := rfl
  simp only [hne, if_true]
  refine wpAny_bind ((PySem.W.looks_mroIn X hn).here ?_)
  simp only [Bool.false_eq_true, if_false, Bool.not_false, if_true]
  refine wpAny_bind (m := tryCompare a _ _) (wpAny_tryCompare_declines ht sl (hd ⟨rfl, ?_⟩))
  have one : wpAny (model prog w) A (tryCompare (.ref x) (cmpInfo .Eq).2.2 a) (fun r s' => ∃ v, r = some v ∧ Q v s') E s := by
    unfold tryCompare
    refine wpAny_bind (PySem.W.ifBound_K X I he hf (wpAny_mono h (fun v s' hv => ?_) fun _ _ e => e))
    cases v <;> first | exact hv.elim | exact wpAny_pure ⟨_, rfl, hv⟩
  refine wpAny_bind (m := tryCompare (.ref x) _ a) (wpAny_mono one (fun r s' z => ?_) fun _ _ e => e)
  obtain ⟨v, rfl, hq⟩ := z
  exact wpAny_pure hq
theorem eqb_of_rc {a : Value} {Q : Bool → Shared → Prop} (hne : (a == Value.ref x) = false) (h : wpAny (model prog w) A (richCompare .Eq a (.ref x)) (fun v s' => ∃ r, v = .bool r ∧ Q r s') E s) : wpAny (model prog w) A (eqBool a (.ref x)) Q E s := by
  unfold eqBool
  refine wpAny_holding ?_
  simp only [hne, Bool.false_eq_true, if_false]
  refine wpAny_bind (wpAny_mono h (fun v s' hv => ?_) fun _ _ x => x)
  obtain ⟨r, rfl, q⟩ := hv
  exact wpAny_truthy_bool q
/-- in a tuple of which nothing is equal -/
theorem in_none {l : Addr} {x : Value} {items : Array Value} {Q : Value → Shared → Prop} (J : Shared → Prop) (h0 : J s) (hl0 : s.heap.IsTuple l items)
    (turn : ∀ y, y ∈ items → ∀ s', J s' → wpAny (model prog w) A.in1 (eqBool y x) (fun r s2 => r = false ∧ J s2) E s') (fin : ∀ s', J s' → Q (.bool false) s') : wpAny (model prog w) A (compareOp .In x (.ref l)) Q E s := by
  show wpAny _ A (do return .bool (← contains (.ref l) x)) Q E s
  have hT : s.TypeIs (.ref l) "tuple" := by obtain ⟨o, ho, hc, _⟩ := id hl0; exact ⟨o, ho, hc⟩
  have g : MeetsIn prog w (Builtin.«tuple.__contains__» ⟨[.ref l, x], []⟩) (fun A' R s => A' = A ∧ s.heap.IsTuple l items ∧ J s ∧ (∀ e s', E e s' → R (.error e) s') ∧ ∀ s', J s' → R (.ok (.ret (.bool false))) s') := by
    intro A' R s h
    obtain ⟨rfl, ht, hj, hE, hR⟩ := h
    obtain ⟨⟨cls, dd, data, sl⟩, ho, hc, n, hd⟩ := ht
    simp only at hc hd
    subst hc hd
    obtain ⟨hp, ge, d, tk, os⟩ := s
    have ho' : hp.get? l = some { cls := .type "tuple", dict := dd, data := .seq items n, slots := sl } := ho
    wp_walk using wpAny_loadPart' ho', wpAny_forIn_array _ (fun rest b s' => b.1 = none ∧ J s' ∧ ∀ y, y ∈ rest → y ∈ items) _
    case turn =>
      rintro y rest b s' ⟨hb, hj', hmem⟩
      refine wpAny_bind (wpAny_mono (turn y (hmem y (List.mem_cons_self ..)) s' hj') (fun r s2 q => ?_) fun e s2 q => hE e s2 q)
      obtain ⟨rfl, hj2⟩ := q
      obtain ⟨hp2, ge2, d2, tk2, os2⟩ := s2
      wp_walk
      exact ⟨rfl, hj2, fun z hz => hmem z (List.mem_cons_of_mem _ hz)⟩
    case fin =>
      rintro ⟨b1, b2⟩ s' ⟨hb, hj', _⟩
      simp only at hb
      subst hb
      have hr := hR s' hj'
      obtain ⟨hp2, ge2, d2, tk2, os2⟩ := s'
      wp_walk
      exact hr
    case h =>
      exact ⟨rfl, hj, fun y hy => by simpa using hy⟩
  refine wpAny_bind (wpAny_contains_slot hT F.slot_tuple_contains (call_meetsIn (Q := fun v s' => wpAny (model prog w) A (truthy v) (fun b s' => wpAny (model prog w) A (pure (Value.bool b)) Q E s') E s') F.slot_tuple_contains hT F.entry_tuple_contains (F.args_tuple_contains_2 _ _) g ⟨rfl, hl0, h0, fun e s' q => q, fun s' q => ?_⟩))
  exact wpAny_truthy_bool (wpAny_pure (fin s' q))
end
section
variable {X : Cx} {CX : CXT} {ge : Addr} {n : Nat} {sp : Sp} {E : XK}
/-- x in (..): x an instance of a class whose __eq__ is at ge; texts, None and tuples, to which it is not equal -/
def rInOwn (K : PySem.W.Frag) (ge : Addr) (sp : Sp) (E : XK) : R2 := fun x y H Q => ∃ a C dx fs gs t items, x = .ref a ∧ H a = some (.ins C dx fs) ∧ OwnC K C gs ge ∧ PySem.W.mroIn K C (.type "str") = some false ∧ PySem.W.mroIn K C (.type "tuple") = some false ∧ PySem.W.mroIn K C (.type "NoneType") = some false ∧ y = .ref t ∧ SqT K H t items ∧
  (∀ v ∈ items, ((∃ b, v = V.str b) ∨ v = .non ∨ ∃ l xs, v = .ref l ∧ SqT K H l xs) ∧ ∀ H', Ext H H' → sp [.ref a, v] H' (fun z H2 => z = .bl false ∧ Ext H' H2) E) ∧ ∀ H', Ext H H' → Q (.bl false) H'
theorem vals_mem : ∀ {xs : List V} {us : List Value} {u : Value}, Vals xs us → u ∈ us → ∃ x ∈ xs, RelV x u
  | _, _, _, .cons r t, h => by
    rcases List.mem_cons.mp h with rfl | h
    · exact ⟨_, List.mem_cons_self .., r⟩
    · obtain ⟨x, hx, q⟩ := vals_mem t h
      exact ⟨x, List.mem_cons_of_mem _ hx, q⟩
theorem op_inOwn (F : FnR X.prog X.w X.K X.mg X.base CX n ge sp) (hr : Room (n + 1) X.A) (hx : Passes CX X E) : OpR X (compareOp .In) (rInOwn X.K ge sp E) := by
  intro pins s σ H x y v u Q I rx ry h
  obtain ⟨a, C, dx, fs, gs, t, items, rfl, ea, c, m1, m2, m3, rfl, hq, hit, q⟩ := h
  cases (show v = Value.ref a from rx)
  cases (show u = Value.ref t from ry)
  obtain ⟨its, rv, p, hz⟩ := I.tuple hq
  have hr1 : Room n X.A.in1 := hr.in1
  refine in_none (items := its.toArray) (LoopI X pins σ H) ⟨H, I, Ext.rfl'⟩ p (fun u hu s' l => ?_) (fun s' l => ?_)
  · obtain ⟨H1, I1, e1⟩ := l
    obtain ⟨w, hw, rw⟩ := vals_mem rv (by simpa using hu)
    obtain ⟨kinds, hsp⟩ := hit w hw
    obtain ⟨mA, O, rr, _, _, _⟩ := ins_get I1.hok (e1 _ _ ea)
    obtain ⟨od, J, hl⟩ := O.look
    have back : wpAny (model X.prog X.w) X.A.in1 (call (.ref ge) [.ref a, u]) (PySem.W.CmpBack fun v s2 => ∃ r, v = .bool r ∧ r = false ∧ LoopI X pins σ H s2) X.xe s' := by
      refine wpAny_mono (wpAny_call (run_at (us := [.ref a, u]) (ws := [.ref a, w]) F hr1 I1.env0.in1 hx I1 (.cons rfl (.cons rw .nil)) (hsp H1 e1))) (fun v s2 z => ?_) fun _ _ x => x
      obtain ⟨z', H', I', rz, ez, ex⟩ := z
      subst ez
      cases (show v = Value.bool false from rz)
      exact ⟨false, rfl, rfl, H', I', e1.trans ex⟩
    rcases kinds with ⟨b, rfl⟩ | rfl | ⟨l, xs, rfl, hlx⟩
    · obtain ⟨tk, rfl⟩ := (show ∃ tk, u = Value.str b tk from rw)
      exact eqb_of_rc rfl (rc_refl hr1.units0 I1.kIn J rfl m1 PySem.F.slot_str_eq (fun {Q} hQ => call_meets PySem.F.slot_str_eq rfl PySem.F.entry_str_eq (PySem.F.args_str_eq_2 _ _) (str_dec b tk a _ _) ⟨J.at_, hQ⟩) c.eq c.eqf back)
    · cases (show u = Value.none from rw)
      exact eqb_of_rc rfl (rc_refl hr1.units0 I1.kIn J rfl m3 PySem.F.slot_NoneType_eq (fun {Q} hQ => call_meets PySem.F.slot_NoneType_eq rfl PySem.F.entry_NoneType_eq (PySem.F.args_NoneType_eq_2 _ _) (NoneType___eq___none_ref_0 a).meets hQ) c.eq c.eqf back)
    · cases (show u = Value.ref l from rw)
      have hlx1 : SqT X.K H1 l xs := SqT.sm hlx e1
      obtain ⟨its2, _, p2, _⟩ := I1.tuple hlx1
      obtain ⟨o, ho, hc, _⟩ := id p2
      have ht : s'.TypeIs (.ref l) "tuple" := ⟨o, ho, hc⟩
      have hne : l ≠ a := fun z => by
        rw [z] at ho
        have z2 := ho.symm.trans J.at_
        cases z2
        cases hc
      have hb : (Value.ref l == Value.ref a) = false := by
        rw [beq_eq_false_iff_ne]
        exact fun z => hne (Value.ref.inj z)
      have hI : ∀ s0, s0 = s' → ∀ {Aa : Around} {Ee : Value → Shared → Prop} {Qq : Bool → Shared → Prop}, Qq false s0 → wpAny (model X.prog X.w) Aa (isInstance (.ref a) (.type "tuple")) Qq Ee s0 := fun s0 e0 {_ _ _} hQ => by
        subst e0
        have z : PySem.W.Looks (model X.prog X.w) s0.heap (isInstance (.ref a) (.type "tuple")) false := J.type.andThen (PySem.W.looks_mroIn I1.kIn m2)
        exact z.here hQ
      exact eqb_of_rc hb (rc_refl hr1.units0 I1.kIn J ht m2 PySem.F.slot_tuple_eq (fun {Q} hQ => call_meetsIn PySem.F.slot_tuple_eq ht PySem.F.entry_tuple_eq (PySem.F.args_tuple_eq_2 _ _) (tup_dec l a (· = s') hI) ⟨rfl, hQ⟩) c.eq c.eqf back)
  · obtain ⟨H1, I1, e1⟩ := l
    exact ⟨.bl false, H1, I1, rfl, q H1 e1⟩
end
end Own
end
section
/-! Own rules for errors with fields: a classmethod that may raise, isinstance of what was caught, repr of texts and of None. -/
namespace Own
open PySem PySem.Spec PyProof.Rows L2 ClX
section
variable {X : Cx} {CX : CXT} {k : Nat} {C p g : Addr} {mc : Value} {sp : Sp} {E : L2.St → XK} {o e : Expr} {es : List Expr} {m : Str} {pos apos : Pos} {ta : TE} {t : TA} {pl : Sem Bool}
/-- C.m(..), which may raise: what leaves may speak of the locals -/
def tCMethS (C : Addr) (sp : Sp) (E : L2.St → XK) (ta : TE) (t : TA) : TE := fun σ H Q => ta σ H fun x G => x = .ref C ∧ t σ G fun ws G' => sp (.ref C :: ws) G' Q (E σ)
theorem pe_cmethS (hO : PE X o ta) (hR : CRead X.K C mc) (hM : CMet X.K C mc m p g) (F : FnR X.prog X.w X.K X.mg X.base CX k g sp) (hr : Room k X.A) (hx : ∀ σ, PassesAt CX X σ (E σ)) (hA : PA X (e :: es) t)
    (h1 : starEach (e :: es) X.env = (false, eval e X.env) :: starEach es X.env := by rfl) (h2 : (backTo pos (starEach es X.env)).any (·.1) = false := by rfl)
    (h3 : eval (.Call (.Attribute o m apos) (e :: es) [] pos) X.env = (do
      let it ← eval o X.env
      standAt apos.atName
      let (fn, ahead) ← holding [it] (getMethod it m pl)
      callWith pos fn ahead (backTo pos (starEach (e :: es) X.env)) (backToKw pos (keywordEach [] X.env))) := by rfl) : PE X (.Call (.Attribute o m apos) (e :: es) [] pos) (tCMethS C sp E ta t) := by
  constructor
  intro pins s σ H Q I h
  refine PySem.W.methodCall_KW (pl := pl) (thn (hO.run pins s σ H _ I h) fun u s1 z => ?_) h3
  obtain ⟨x, G, J, rx, ex, q⟩ := z
  subst ex
  cases (show u = Value.ref C from rx)
  refine getmethcm_ok J hR hM fun s2 J2 => ?_
  refine callwith_cm J2 (base_none J (Nat.le_refl _)) hM.fi (thn (hA.run pos _ s2 σ G _ J2 q) fun us s3 y => ?_) h1 h2
  obtain ⟨ws, G2, J3, rv, q2⟩ := y
  refine ⟨⟨pin_at J3, J3.kIn⟩, ?_⟩
  have back : wpAny (model X.prog X.w) X.A (call (.ref s1.heap.objs.size) us) (EP X ((s1.heap.objs.size, PySem.W.methodObj (.ref g) (.ref C)) :: pins) σ Q) X.xe s3 := by
    refine wpAny_call (PySem.W.method_call (pin_at J3) (codeAny_mono (F X.A X.stack s3 G2 (.ref C :: us) (.ref C :: ws) Q (E σ) hr J3.env0 (.cons rfl rv) q2) fun r s4 z => ?_))
    match r, z with
    | .error err, z => exact hx σ _ G2 s3 err s4 J3 z
    | .ok (.ret v), z => exact J3.after z
    | .ok .next, z => exact z.elim
    | .ok .brk, z => exact z.elim
    | .ok .cont, z => exact z.elim
  exact thn back fun _ _ y => unpinE y
end
section
variable {X : Cx}
theorem call_repr_str : CallR X (.builtin "repr") (fun xs H Q => ∃ y : Str, xs = [.str y] ∧ (reprText y).length ≤ sizeLine ∧ Q (.str (reprText y)) H) := by
  intro pins s σ H xs us Q I r h
  obtain ⟨y, rfl, hz, q⟩ := h
  obtain ⟨u, rfl, ru⟩ := r.one
  obtain ⟨t, rfl⟩ := (show ∃ t, u = Value.str y t from ru)
  exact PySem.P.repr_of_str (⟨.str _, H, I.tok _, ⟨_, rfl⟩, q⟩) hz
theorem call_repr_none : CallR X (.builtin "repr") (fun xs H Q => xs = [.non] ∧ Q (.str "None") H) := by
  intro pins s σ H xs us Q I r h
  obtain ⟨rfl, q⟩ := h
  obtain ⟨u, rfl, ru⟩ := r.one
  cases (show u = Value.none from ru)
  exact PySem.P.repr_of_none ⟨.str _, H, I.tok _, ⟨_, rfl⟩, q⟩
/-- isinstance(e, c), e what the suite holds, with its own dict -/
def rIsX (K : PySem.W.Frag) (D a : Addr) (cls : Value) (d : Option Addr) : List V → Hp → VK → Prop := fun xs H Q => ∃ (T : Addr) (b : Bool) (dd : Addr) (fs : List (Str × V)), xs = [.ref a, .ref T] ∧ cls = .ref D ∧ PySem.W.kitOne K (.ref D) (.ref T) = some b ∧ d = some dd ∧ H dd = some (.xd fs) ∧ Q (.bl b) H
theorem call_isX {a D : Addr} {cls : Value} {d : Option Addr} {oe : Obj} {pn : List (Addr × Obj)} (C : L2.ExcC X.K D) (hz : Zc cls d oe) (hf : ∃ vs, oe.data = .fields vs) : CallR (X.suite a ((a, oe) :: pn)) (.builtin "isinstance") (rIsX X.K D a cls d) := by
  intro pins s σ H xs us Q I r h
  obtain ⟨T, b, dd, fs, rfl, rfl, hk, rfl, hd, q⟩ := h
  cases r with
  | cons r1 r2 =>
    cases r2 with
    | cons r3 r4 =>
      cases r4
      cases r1
      cases r3
      obtain ⟨hget, _⟩ := I.pin (a, oe) (List.mem_append.mpr (.inl List.mem_cons_self))
      obtain ⟨vs, hv⟩ := hf
      have ok : ObjOk X.prog X.w H s.heap dd (.xd fs) := I.hok dd _ hd
      obtain ⟨mA, hns, hr⟩ := ok
      obtain ⟨od, ho, hl⟩ := lookIn_ns hns
      have J : PySem.W.InstAt s.heap a oe D (some od) := ⟨hget, hz.1, by unfold PySem.W.notCls; rw [hv] <;> rfl, by rw [hz.2]; exact ho⟩
      have hcl : (PySem.W.clsIn X.K D).isSome = true := by
        obtain ⟨cd, hc, _⟩ := PySem.W.any_some C.hd
        rw [hc]; rfl
      refine PySem.W.kia_one (PySem.W.kitx_exc (ox := oe) (od := some od) hcl C.hg C.hk C.hs C.ha C.hn C.ht C.hm) I.kIn J hk (fun z => nomatch z) fun tk => ?_
      exact ⟨.bl b, H, I.kept (t' := tk) fun _ _ z => z, rfl, q⟩
end
end Own
end
section
/-! Own rules for any values: a class made whose __init__ may raise; enumerate of a list or a tuple in a comprehension. -/
namespace Own
open PySem PySem.Spec PyProof.Rows L2
section
variable {X : Cx} {CX : CXT} {k : Nat} {f C : Addr} {fd : FuncData} {ps : List Str} {sp : Sp} {dvs : List V} {ds : List Value} {E : L2.St → XK} {x : Str} {p pos : Pos} {e : Expr} {es : List Expr} {t : TA}
theorem run_makeS {pins : List (Addr × Obj)} {σ : L2.St} {H : Hp} {s : Shared} {Q : VK} {us : List Value} {vs : List V} (M : Mk X.K C f) (F : FnOk X.prog X.w X.K X.mg X.base CX k f fd ps sp) (hr : Room (k + 1) X.A) (hb : Binds X.K fd ps ds) (hd : Vals dvs ds)
    (hx : PassesAt CX X σ (E σ)) (I : Inv X pins σ H s) (r : Vals vs us)
    (h : ∀ x dx, H x = none → H dx = none → dx ≠ x → sp (.ref x :: (vs ++ dvs)) (upd (upd H dx (.own x)) x (.ins C dx [])) (fun v H2 => v = .non ∧ Q (.ref x) H2) (E σ)) :
    wpAny (model X.prog X.w) X.A (call (.ref C) us) (EP X pins σ Q) X.xe s := by
  have hq := h (s.heap.objs.size + 1) s.heap.objs.size (I.hok.fresh (Nat.le_succ _)) (I.hok.fresh (Nat.le_refl _)) (Nat.ne_of_lt (Nat.lt_succ_self _))
  have I2 := Inv.made (C := C) I
  have r2 : Vals (V.ref (s.heap.objs.size + 1) :: (vs ++ dvs)) (Value.ref (s.heap.objs.size + 1) :: (us ++ ds)) := .cons rfl (r.append hd)
  have hl : (Value.ref (s.heap.objs.size + 1) :: us ++ ds).length = ps.length := by
    have e := r2.length
    rw [F.len _ _ _ _ hq] at e
    exact e.symm
  refine wpAny_call (make_map (f := f) I.kIn M.makes M.init (beq_iff_eq.mp M.fn) (codeAny_mono (F.run _ X.stack _ _ ⟨Value.ref (s.heap.objs.size + 1) :: us, []⟩ (Value.ref (s.heap.objs.size + 1) :: (us ++ ds)) _ _ (E σ) (hr.make C us [])
    (I2.env0.make C us []) (hb _ (Value.ref (s.heap.objs.size + 1) :: us) I2.kIn hl) r2 hq) fun r s' hq' => ?_))
  cases r with
  | error e => exact hx pins _ _ e s' I2 hq'
  | ok fl =>
    cases fl with
    | ret u =>
      obtain ⟨v, H', I3, rv, ev, q3⟩ := I2.after hq'
      subst ev
      exact ⟨rv, ⟨V.ref (s.heap.objs.size + 1), H', I3, rfl, q3⟩⟩
    | next => exact False.elim hq'
    | brk => exact False.elim hq'
    | cont => exact False.elim hq'
/-- C(..), whose __init__ may raise -/
def tMakeS (C : Addr) (sp : Sp) (dvs : List V) (E : L2.St → XK) (t : TA) : TE := fun σ H Q => t σ H fun vs H1 => ∀ x dx, H1 x = none → H1 dx = none → dx ≠ x →
  sp (.ref x :: (vs ++ dvs)) (upd (upd H1 dx (.own x)) x (.ins C dx [])) (fun v H2 => v = .non ∧ Q (.ref x) H2) (E σ)
theorem pe_makeS (M : Mk X.K C f) (F : FnOk X.prog X.w X.K X.mg X.base CX k f fd ps sp) (hr : Room (k + 1) X.A) (hg : Gl X x) (hm : X.mg x = some (.ref C)) (hb : Binds X.K fd ps ds) (hd : Vals dvs ds) (hx : ∀ σ, PassesAt CX X σ (E σ))
    (ha : PA X (e :: es) t) (hdb : (x == ("__debug__" : Str)) = false := by decide) (he : starEach (e :: es) X.env = (false, eval e X.env) :: starEach es X.env := by rfl) (hpl : (backTo pos (starEach es X.env)).any (·.1) = false := by rfl) :
    PE X (.Call (.Name x p) (e :: es) [] pos) (tMakeS C sp dvs E t) := by
  refine ⟨fun pins s σ H Q I h => ?_⟩
  refine wpAny_Call_Name_kw (ld_glob I hg hm ?_ hdb)
  refine PySem.W.callWith_K (h₀ := X.base) I.ok.mod.kin M.kp (thn (ha.run pos pins s σ H _ I h) fun us s1 ⟨vs, H1, I1, r, q⟩ => ⟨I1.kIn, ?_⟩) he hpl
  exact run_makeS M F hr hb hd (hx σ) I1 r q
end
theorem lc_enumL {K : PySem.W.Frag} {a : Addr} {xs : List V} {g : TG} {tt : TT} {te : TE} {vs : List Nat} {σ : L2.St} {H1 : Hp} {D : Addr} {Qd : Hp → Prop} (Pv : Nat → Hp → Prop) (h0 : Pv 0 (upd H1 D (.lst []))) (hl : ∀ i H, i ≤ xs.length → Pv i H → SqL K H a xs)
    (hs : ∀ i x T H, xs[i]? = some x → Pv i H → H T = none → g (.ref T) (wipe σ vs) (upd H T (.tup [.int (i : Nat), x])) fun σ2 H2 => wipe σ2 vs = wipe σ vs ∧ tt σ2 H2 fun b H3 =>
      if b = true then te σ2 H3 fun y H4 => ∃ acc, H4 D = some (.lst acc) ∧ acc.length < sizeLine ∧ Pv (i + 1) (upd H4 D (.lst (acc ++ [y]))) else Pv (i + 1) H3) (hd : ∀ H, Pv xs.length H → Qd H) :
    ∃ W : Nat → Nat → Hp → Prop, (∃ m, W 0 m (upd H1 D (.lst []))) ∧ ∀ i m H, W i m H →
      ((Ite K a).stop i H ∧ Qd H) ∨ ((Ite K a).go i H ∧ ∃ Nx : Hp → Prop, (∀ H', Nx H' → ∃ m', m' < m ∧ W (i + 1) m' H') ∧ ∀ x H', (Ite K a).yld i H x H' → g x (wipe σ vs) H' fun σ2 H2 => wipe σ2 vs = wipe σ vs ∧ tt σ2 H2 fun b H3 =>
        if b = true then te σ2 H3 fun y H4 => ∃ acc, H4 D = some (.lst acc) ∧ acc.length < sizeLine ∧ Nx (upd H4 D (.lst (acc ++ [y]))) else Nx H3) := by
  refine ⟨fun i m H => m = xs.length - i ∧ i ≤ xs.length ∧ Pv i H, ⟨xs.length, by simp, Nat.zero_le _, h0⟩, ?_⟩
  rintro i m H ⟨rfl, hi, p⟩
  have q := hl i H hi p
  by_cases hlt : i < xs.length
  · refine .inr ⟨⟨xs, xs[i], q, List.getElem?_eq_getElem hlt⟩, Pv (i + 1), fun H' p' => ⟨xs.length - (i + 1), by omega, rfl, hlt, p'⟩, fun v H' y => ?_⟩
    obtain ⟨T, x', rfl, hT, rfl, f⟩ := y
    exact hs i x' T H (f xs q) p hT
  · have e : i = xs.length := by omega
    subst e
    exact .inl ⟨⟨xs, q, Nat.le_refl _⟩, hd H p⟩
theorem lc_enumT {K : PySem.W.Frag} {a : Addr} {xs : List V} {g : TG} {tt : TT} {te : TE} {vs : List Nat} {σ : L2.St} {H1 : Hp} {D : Addr} {Qd : Hp → Prop} (Pv : Nat → Hp → Prop) (h0 : Pv 0 (upd H1 D (.lst []))) (hl : ∀ i H, i ≤ xs.length → Pv i H → SqT K H a xs)
    (hs : ∀ i x T H, xs[i]? = some x → Pv i H → H T = none → g (.ref T) (wipe σ vs) (upd H T (.tup [.int (i : Nat), x])) fun σ2 H2 => wipe σ2 vs = wipe σ vs ∧ tt σ2 H2 fun b H3 =>
      if b = true then te σ2 H3 fun y H4 => ∃ acc, H4 D = some (.lst acc) ∧ acc.length < sizeLine ∧ Pv (i + 1) (upd H4 D (.lst (acc ++ [y]))) else Pv (i + 1) H3) (hd : ∀ H, Pv xs.length H → Qd H) :
    ∃ W : Nat → Nat → Hp → Prop, (∃ m, W 0 m (upd H1 D (.lst []))) ∧ ∀ i m H, W i m H →
      ((IteT K a).stop i H ∧ Qd H) ∨ ((IteT K a).go i H ∧ ∃ Nx : Hp → Prop, (∀ H', Nx H' → ∃ m', m' < m ∧ W (i + 1) m' H') ∧ ∀ x H', (IteT K a).yld i H x H' → g x (wipe σ vs) H' fun σ2 H2 => wipe σ2 vs = wipe σ vs ∧ tt σ2 H2 fun b H3 =>
        if b = true then te σ2 H3 fun y H4 => ∃ acc, H4 D = some (.lst acc) ∧ acc.length < sizeLine ∧ Nx (upd H4 D (.lst (acc ++ [y]))) else Nx H3) := by
  refine ⟨fun i m H => m = xs.length - i ∧ i ≤ xs.length ∧ Pv i H, ⟨xs.length, by simp, Nat.zero_le _, h0⟩, ?_⟩
  rintro i m H ⟨rfl, hi, p⟩
  have q := hl i H hi p
  by_cases hlt : i < xs.length
  · refine .inr ⟨⟨xs, xs[i], q, List.getElem?_eq_getElem hlt⟩, Pv (i + 1), fun H' p' => ⟨xs.length - (i + 1), by omega, rfl, hlt, p'⟩, fun v H' y => ?_⟩
    obtain ⟨T, x', rfl, hT, rfl, f⟩ := y
    exact hs i x' T H (f xs q) p hT
  · have e : i = xs.length := by omega
    subst e
    exact .inl ⟨⟨xs, q, Nat.le_refl _⟩, hd H p⟩
end Own
end
section
/-! Own rules for errors made and raised where nothing is handled (their context None), and again in an except suite. -/
namespace Own
open PySem PySem.Spec PyProof.Rows L2
section
variable {P : Program} {w : World} {K : PySem.W.Frag} {mg : Str → Option Value} {base : Heap}
/-- a def, whatever leaves it -/
theorem okC {CX : CXT} {x qual : Str} {st : Stmt} {f : Addr} {fd : FuncData} {N ps : List Str} {k : Nat} {sp : Sp} (F : Fun K x qual st f fd) (S : FnScope N ps (defScope st)) (len : ∀ vs H Q E, sp vs H Q E → vs.length = ps.length)
    (body : ∀ (cdv : Value) (A : Around) (outer : List Env) (s : Shared) (H : Hp) (vs : List V) (Q : VK) (E : XK), Room k (A.deeper (envOfC qual (defScope st) s.heap.objs.size f cdv)) → sp vs H Q E →
      ∃ t, PSs (cxOf CX P w K mg base N qual (defScope st) f cdv A outer s H E) (defBody st) t ∧ t { nx := fun _ H' => Q .non H', rt := Q } (L2.start N vs) H) : FnOk P w K mg base CX (k + 1) f fd ps sp := by
  rcases F.ex with ⟨_, _, _, _, _, _, cdv, _, _, rfl, lk, hcd⟩
  exact fn_of lk hcd S len (body cdv)
/-- a def that is called in an except suite -/
theorem okH {CX : CXT} {x qual : Str} {st : Stmt} {f : Addr} {fd : FuncData} {N ps : List Str} {k : Nat} {sp : Sp} (F : Fun K x qual st f fd) (S : FnScope N ps (defScope st)) (len : ∀ vs H Q E, sp vs H Q E → vs.length = ps.length)
    (body : ∀ (cdv : Value) (A : Around) (outer : List Env) (s : Shared) (H : Hp) (vs : List V) (Q : VK) (E : XK) (p : Addr × Obj), sp vs H Q E →
      ∃ t, PSs (L2H.cxH CX P w K mg base N qual (defScope st) f cdv A outer s H E p) (defBody st) t ∧ t { nx := fun _ H' => Q .non H', rt := Q } (L2.start N vs) H) : L2H.FnH P w K mg base CX (k + 1) f fd ps sp := by
  rcases F.ex with ⟨_, _, _, _, _, _, cdv, _, _, rfl, lk, hcd⟩
  exact L2H.fn_ofH lk hcd S len fun A outer s H vs Q E p _ _ => body cdv A outer s H vs Q E p
end
section
variable {X : Cx} {CX : CXT} {x : Str} {C g : Addr} {k : Nat} {fd : FuncData} {ps : List Str} {sp : Sp} {ds : List Value} {dvs : List V} {e : Expr} {es : List Expr} {ta : TA} {p pos : Pos}
/-- C(e, ..), an own error with its own __init__, made where nothing is handled -/
theorem pmkN (T : OexC X.K C) (iC : PySem.W.findIn X.K (.ref C) "__init__" = some (some (.ref g))) (tI : PySem.W.typeIn X.K (.ref g) = some (.type "function")) (F : FnOk X.prog X.w X.K X.mg X.base CX k g fd ps sp) (hr : Room (k + 1) X.A)
    (hb : Binds X.K fd ps ds) (hd : Vals dvs ds) (hx : Passes CX X (fun _ _ _ => False)) (hg : Gl X x) (hm : X.mg x = some (.ref C)) (hA : PA X (e :: es) ta) (nd : (x == ("__debug__" : Str)) = false := by decide)
    (h1 : starEach (e :: es) X.env = (false, eval e X.env) :: starEach es X.env := by rfl) (h2 : (backTo pos (starEach es X.env)).any (·.1) = false := by rfl) : L2N.PMk X (.Call (.Name x p) (e :: es) [] pos) (tMkO C sp dvs ta) := by
  intro pins s0 σ H Q I h
  rcases T.cls with ⟨_, _, _, _, mro, _, _, _, _, _, _, _, _, _, _, low, hmro⟩
  have run := hA.run pos pins s0 σ H _ I h
  refine wpAny_Call_Name_kw (ld_glob I hg hm (PySem.W.callWith_K I.ok.mod.kin T.kC (thn run fun args st ⟨ws, G, J, rv, small, q⟩ => ⟨J.kIn, ?_⟩) h1 h2) nd)
  rcases st with ⟨hh, gg, dd, tt, oo⟩
  have up : hh.objs.size ≤ hh.objs.size + 1 := Nat.le_add_right _ 1
  have q' := q (hh.objs.size + 1) (J.hok.fresh up)
  let h3 := (hh.push (PySem.W.kdv_tup args)).push (PySem.HandSPX.excO C hh.objs.size)
  have keep : ∀ b o, hh.get? b = some o → h3.get? b = some o := fun _ _ z => Heap.get?_push_of_some _ (Heap.get?_push_of_some _ z)
  have new : h3.get? (hh.objs.size + 1) = some (PySem.HandSPX.excO C hh.objs.size) := by
    show ((hh.push (PySem.W.kdv_tup args)).push (PySem.HandSPX.excO C hh.objs.size)).get? _ = _
    heap_get
  have J3 : Inv X pins σ (upd G (hh.objs.size + 1) (exo (hh.objs.size + 1) C none)) ⟨h3, gg, dd, tt, oo⟩ := J.laid (t' := tt) keep up (exo_ok new)
  have rv3 : Vals (V.ref (hh.objs.size + 1) :: (ws ++ dvs)) (Value.ref (hh.objs.size + 1) :: (args ++ ds)) := .cons rfl (rv.append hd)
  have ln : (Value.ref (hh.objs.size + 1) :: args ++ ds).length = ps.length := (rv3.length.symm.trans (F.len _ _ _ _ q')).symm ▸ rfl
  have few : args.length ≤ sizeLine := by
    have := Paired.length rv
    rw [sizeLine_eq]; omega
  have called := F.run _ X.stack _ _ ⟨Value.ref (hh.objs.size + 1) :: args, []⟩ _ _ _ (fun _ _ _ => False) (hr.make C args []) (J3.env0.make C args []) (hb _ (Value.ref (hh.objs.size + 1) :: args) J3.kIn ln) rv3 q'
  refine wpAny_call (PySem.HandSPX.call_own PySem.F.excBase_ValueError (fun Y => PySem.HandSPX.refsVE_contains Y mro hmro) (J.kIn _ _ low) (PySem.W.looks_findIn J.kIn iC) (fun self => PySem.W.bind_fn J.kIn self tI) few (codeAny_mono called fun r s4 z => ?_))
  match r, z with
  | .error er, z => exact hx pins σ _ _ er s4 J3 z
  | .ok (.ret u), z =>
    rcases z with ⟨v, H4, os4, ba4, un4, ok4, rr, rfl, d, fs, ea, ed, nd1, q4⟩
    rcases s4 with ⟨h4, g4, d4, t4, o4⟩
    rcases mk_end0 (d2 := d4) (t2 := t4) J up keep un4 ok4 os4 ba4 ea ed nd1 with ⟨t0, Gr, J4, kG, gone, obj, na⟩
    refine ⟨rr, _, _, _, ⟨Gr, g4, d4, t4, o4⟩, _, .ref C, some d, rfl, J4, kG, gone, obj, ⟨rfl, rfl, fun vs hv => ?_⟩, rfl, rfl, na, rfl, ba4, raises_own T.exC T.tyC, q4⟩
    cases hv
    rfl
  | .ok .next, z => exact z.elim
  | .ok .brk, z => exact z.elim
  | .ok .cont, z => exact z.elim
end
end Own
end
section
/-! Own rule: xs[::k] where k is an expression whose value is -1. -/
namespace Own
open PySem PySem.Spec PyProof.Rows L2
section
variable {X : Cx}
/-- a list turned about, the step an expression -/
def tTurned (K : PySem.W.Frag) (te : TE) (tk : TO) : TE := fun σ H Q => te σ H fun x G => ∃ a xs, x = .ref a ∧ tk σ G fun o G' => o = some (-1) ∧ SqL K G' a xs ∧ ∀ p, G' p = none → Q (.ref p) (upd G' p (.lst xs.reverse))
theorem pe_turned {e k : Expr} {te : TE} {tk : TO} {p3 pos : Pos} (he : PE X e te) (hk : PO X (some k) tk) : PE X (.Subscript e (.Slice none none (some k) p3) pos) (tTurned X.K te tk) := by
  constructor
  intro pins s0 σ H Q I h
  refine Subscript_ (thn (he.run pins s0 σ H _ I h) fun v sA z => ?_)
  rcases z with ⟨x, G, J, rx, a, xs, rfl, q⟩
  cases (show v = Value.ref a from rx)
  have none1 := fun {s : Shared} {G : Hp} (J : Inv X pins σ G s) => po_none.run pins s σ G (fun o G2 => o = none ∧ G2 = G) J ⟨rfl, rfl⟩
  refine wpAny_Slice (thn (none1 J) fun vl sB z1 => ?_)
  rcases z1 with ⟨l, GB, JB, pl, rfl, rfl⟩
  refine thn (none1 JB) fun vu sC z2 => ?_
  rcases z2 with ⟨u, GC, JC, pu, rfl, rfl⟩
  refine thn (hk.run pins sC σ _ _ JC q) fun vs sD z3 => ?_
  rcases z3 with ⟨o, GD, JD, ps, rfl, hx, q3⟩
  have JE : Inv X pins σ GD { sD with heap := sD.heap.push { cls := .type "slice", data := .fields #[vl, vu, vs] } } := JD.kept (t' := sD.toks) fun _ _ z => Heap.get?_push_of_some _ z
  rcases JE.list hx with ⟨its, rv, isl, small⟩
  have hl := rv.length
  show wpAny (model X.prog X.w) X.A (subscriptTail e (.Slice none none (some k) p3) (.ref a) (.ref sD.heap.objs.size)) _ _ _
  refine tail_any (ops := [.ref a, .ref sD.heap.objs.size]) isl.isList.typeIs (PySem.slot_list_getitem.lookup) (wpAny_getItem_list_slice isl.isList (Heap.IsSliceOf.new _ vl vu vs) pl pu ps (by decide) ?_ (by rw [List.size_toArray]; omega)) (by with_unfolding_all rfl)
  rw [PySem.W.krv_pick]
  exact ⟨.ref _, _, JE.laid (t' := sD.toks) (o := .lst xs.reverse) (fun _ _ z => Heap.get?_push_of_some _ z) (Nat.le_refl _) ⟨by rw [List.length_reverse]; exact small, _, 0, rv.reverse, Heap.get?_push_size _ rfl⟩, rfl, q3 _ (JE.hok.fresh (Nat.le_refl _))⟩
end
end Own
end
section
namespace Ow
open PySem L2 Own
def top (i : Nat) : Stmt := PySem.Challenge.pw_outermost_k08_texts_of_no_stack.main.body.getD i (.Pass ⟨0, 0, 0, 0⟩)
abbrev s_wall : Stmt := top 0
abbrev s_InvalidRow_init : Stmt := inClass (top 3) 0
abbrev s_InvalidStack_init : Stmt := inClass (top 4) 0
abbrev s_InvalidText_init : Stmt := inClass (top 5) 0
abbrev s_NoRow_init : Stmt := inClass (top 6) 0
abbrev s_is_integer : Stmt := top 8
abbrev s_is_sequence : Stmt := top 9
abbrev s_Row_read : Stmt := inClass (top 16) 0
abbrev s_Row_words : Stmt := inClass (top 16) 1
abbrev s_Row_eq : Stmt := inClass (top 16) 2
abbrev s_Row_str : Stmt := inClass (top 16) 3
abbrev s_Keep_init : Stmt := inClass (top 17) 0
abbrev s_Keep_words : Stmt := inClass (top 17) 1
abbrev s_Tries_init : Stmt := inClass (top 18) 0
abbrev s_Tries_words : Stmt := inClass (top 18) 1
abbrev s_Limit_init : Stmt := inClass (top 19) 0
abbrev s_Limit_words : Stmt := inClass (top 19) 1
abbrev s_Leave_words : Stmt := inClass (top 20) 0
abbrev s_Soft_init : Stmt := inClass (top 21) 0
abbrev s_Soft_words : Stmt := inClass (top 21) 1
abbrev s_Count_words : Stmt := inClass (top 22) 0
abbrev s_Lend_words : Stmt := inClass (top 23) 0
abbrev s_is_one_of : Stmt := top 24
abbrev s_check_argument : Stmt := top 25
abbrev s_every_row : Stmt := top 26
abbrev s_Stack_init : Stmt := inClass (top 28) 0
abbrev s_Stack_read : Stmt := inClass (top 28) 1
abbrev s_Stack_without : Stmt := inClass (top 28) 2
abbrev s_Stack_swapped : Stmt := inClass (top 28) 3
abbrev s_Stack_put : Stmt := inClass (top 28) 4
abbrev s_Stack_add : Stmt := inClass (top 28) 5
abbrev s_Stack_len : Stmt := inClass (top 28) 6
abbrev s_Stack_getitem : Stmt := inClass (top 28) 7
abbrev s_Stack_iter : Stmt := inClass (top 28) 8
abbrev s_Stack_eq : Stmt := inClass (top 28) 9
abbrev s_Stack_str : Stmt := inClass (top 28) 10
abbrev s_rows_of : Stmt := top 29
abbrev s_rows_in : Stmt := top 30
abbrev s_check_index : Stmt := top 31
abbrev s_law_source : Stmt := top 33
abbrev s_law_draw : Stmt := top 34
abbrev s_law_pick : Stmt := top 35
abbrev s_law_mixed : Stmt := top 36
abbrev s_law_row : Stmt := top 37
abbrev s_law_rows : Stmt := top 38
abbrev s_law_row_text : Stmt := top 39
abbrev s_law_heard : Stmt := top 40
abbrev s_law : Stmt := top 41
/-! ### rows as data -/
inductive R where
  | keep (w : Bool) (l : Option Nat) | tries (n : Nat) (a : Bool) | limit (n : Nat) | leave | soft (a : Bool) | count | lend
  deriving DecidableEq
def wS (w : Bool) : Str := if w then "all" else "good"
def aS (a : Bool) : Str := if a then "all" else "fault"
def nS (n : Nat) : Str := Str.ofString (toString ((n : Nat) : Int))
def lV : Option Nat → V
  | none => .non
  | some n => .int n
def lS : Option Nat → Str
  | none => "ever"
  | some n => nS n
def R.words : R → List Str
  | .keep w l => ["keep", wS w, lS l]
  | .tries n a => ["tries", nS n, aS a]
  | .limit n => ["limit", nS n]
  | .leave => ["leave"]
  | .soft a => ["soft", aS a]
  | .count => ["count"]
  | .lend => ["lend"]
def R.text (r : R) : Str := Txt.join " " r.words
def R.ok : R → Bool
  | .keep _ l => match l with | none => true | some n => decide (n ≤ 3)
  | .tries n _ => decide (1 ≤ n ∧ n ≤ 3)
  | .limit n => decide (1 ≤ n ∧ n ≤ 6)
  | _ => true
def allRows : List R := [.keep false none, .keep false (some 0), .keep false (some 1), .keep false (some 2), .keep false (some 3), .keep true none, .keep true (some 0), .keep true (some 1), .keep true (some 2), .keep true (some 3),
  .tries 1 false, .tries 1 true, .tries 2 false, .tries 2 true, .tries 3 false, .tries 3 true, .limit 1, .limit 2, .limit 3, .limit 4, .limit 5, .limit 6, .soft false, .soft true, .leave, .count, .lend]
theorem mem_all {r : R} (h : r.ok = true) : r ∈ allRows := by
  cases r with
  | keep w l =>
    cases l with
    | none => cases w <;> decide
    | some n =>
      have h : n ≤ 3 := of_decide_eq_true h
      have e : n = 0 ∨ n = 1 ∨ n = 2 ∨ n = 3 := by omega
      rcases e with rfl | rfl | rfl | rfl <;> cases w <;> decide
  | tries n a =>
    have h : 1 ≤ n ∧ n ≤ 3 := of_decide_eq_true h
    have e : n = 1 ∨ n = 2 ∨ n = 3 := by omega
    rcases e with rfl | rfl | rfl <;> cases a <;> decide
  | limit n =>
    have h : 1 ≤ n ∧ n ≤ 6 := of_decide_eq_true h
    have e : n = 1 ∨ n = 2 ∨ n = 3 ∨ n = 4 ∨ n = 5 ∨ n = 6 := by omega
    rcases e with rfl | rfl | rfl | rfl | rfl | rfl <;> decide
  | leave => decide
  | soft a => cases a <;> decide
  | count => decide
  | lend => decide
theorem all_ok : ∀ r ∈ allRows, r.ok = true := by decide
theorem text_inj {r s : R} (hr : r.ok = true) (hs : s.ok = true) (e : r.text = s.text) : r = s := by
  have key : ∀ r ∈ allRows, ∀ s ∈ allRows, r.text = s.text → r = s := by decide +kernel
  exact key r (mem_all hr) s (mem_all hs) e
theorem text_small {r : R} (hr : r.ok = true) : (r.words.map (·.length)).sum + r.words.length * Str.length " " ≤ 16777216 ∧ r.text.length ≤ 100 := by
  have key : ∀ r ∈ allRows, (r.words.map (·.length)).sum + r.words.length * Str.length " " ≤ 16777216 ∧ r.text.length ≤ 100 := by decide +kernel
  exact key r (mem_all hr)
theorem text_eq {r s : R} (hr : r.ok = true) (hs : s.ok = true) : decide (V.str r.text = V.str s.text) = decide (r = s) := by
  by_cases e : r = s
  · rw [e, decide_eq_true rfl, decide_eq_true rfl]
  · rw [decide_eq_false e]
    exact decide_eq_false fun z => e (text_inj hr hs (V.str.inj z))
/-! ### rows as objects -/
structure Cs where
  (row keep tries limit leave soft count lend : Addr)
def Cs.of (c : Cs) : R → Addr
  | .keep _ _ => c.keep
  | .tries _ _ => c.tries
  | .limit _ => c.limit
  | .leave => c.leave
  | .soft _ => c.soft
  | .count => c.count
  | .lend => c.lend
def fKeep (w : Bool) (l : Option Nat) : List (Str × V) := putF "life" (lV l) (putF "what" (.str (wS w)) [])
def fTries (n : Nat) (a : Bool) : List (Str × V) := putF "on" (.str (aS a)) (putF "many" (.int n) [])
def fLimit (n : Nat) : List (Str × V) := putF "many" (.int n) []
def fSoft (a : Bool) : List (Str × V) := putF "on" (.str (aS a)) []
def fsOf : R → List (Str × V)
  | .keep w l => fKeep w l
  | .tries n a => fTries n a
  | .limit n => fLimit n
  | .soft a => fSoft a
  | _ => []
theorem kLW : ¬ (("what" : Str) = "life") := by decide +kernel
theorem kMO : ¬ (("many" : Str) = "on") := by decide +kernel
theorem fKeep_what (w l) : (fKeep w l).lookup ("what" : Str) = some (.str (wS w)) := by
  unfold fKeep; rw [lookup_putF, if_neg kLW, lookup_putF, if_pos rfl]
theorem fKeep_life (w l) : (fKeep w l).lookup ("life" : Str) = some (lV l) := by
  unfold fKeep; rw [lookup_putF, if_pos rfl]
theorem fTries_many (n a) : (fTries n a).lookup ("many" : Str) = some (.int n) := by
  unfold fTries; rw [lookup_putF, if_neg kMO, lookup_putF, if_pos rfl]
theorem fTries_on (n a) : (fTries n a).lookup ("on" : Str) = some (.str (aS a)) := by
  unfold fTries; rw [lookup_putF, if_pos rfl]
theorem fLimit_many (n) : (fLimit n).lookup ("many" : Str) = some (.int n) := by
  unfold fLimit; rw [lookup_putF, if_pos rfl]
theorem fSoft_on (a) : (fSoft a).lookup ("on" : Str) = some (.str (aS a)) := by
  unfold fSoft; rw [lookup_putF, if_pos rfl]
theorem fs_no (r : R) {m : Str} (h1 : ¬ m = "life") (h2 : ¬ m = "what") (h3 : ¬ m = "on") (h4 : ¬ m = "many") : (fsOf r).lookup m = none := by
  cases r <;> first
    | rfl
    | (show (fKeep _ _).lookup m = none; unfold fKeep; rw [lookup_putF, if_neg h1, lookup_putF, if_neg h2]; rfl)
    | (show (fTries _ _).lookup m = none; unfold fTries; rw [lookup_putF, if_neg h3, lookup_putF, if_neg h4]; rfl)
    | (show (fLimit _).lookup m = none; unfold fLimit; rw [lookup_putF, if_neg h4]; rfl)
    | (show (fSoft _).lookup m = none; unfold fSoft; rw [lookup_putF, if_neg h3]; rfl)
/-- the row r stands at p -/
def RowAt (c : Cs) (H : Hp) (p : Addr) (r : R) : Prop := ∃ dx, H p = some (.ins (c.of r) dx (fsOf r))
theorem RowAt.same {c : Cs} {H H' : Hp} {p : Addr} {r : R} (s : Same H H') (h : RowAt c H p r) : RowAt c H' p r := let ⟨dx, e⟩ := h; ⟨dx, s _ _ e⟩
/-- a tuple of the written part -/
def KTup (K : PySem.W.Frag) (a : Addr) (xs : List V) : Prop := ∀ H, SqT K H a xs
structure Txt' (K : PySem.W.Frag) (mg : Str → Option Value) (c : Cs) (gs ge : Addr) : Prop where
  own : ∀ r, OwnC K (c.of r) gs ge
  nW : NoAttr K c.keep "what"
  nL : NoAttr K c.keep "life"
  tM : NoAttr K c.tries "many"
  tO : NoAttr K c.tries "on"
  lM : NoAttr K c.limit "many"
  sO : NoAttr K c.soft "on"
  isR : ∀ r, PySem.W.kitOne K (.ref (c.of r)) (.ref c.row) = some true
  mRow : mg "Row" = some (.ref c.row)
  mKeep : mg "Keep" = some (.ref c.keep)
  mTries : mg "Tries" = some (.ref c.tries)
  mLimit : mg "Limit" = some (.ref c.limit)
  mLeave : mg "Leave" = some (.ref c.leave)
  mSoft : mg "Soft" = some (.ref c.soft)
  mCount : mg "Count" = some (.ref c.count)
  mLend : mg "Lend" = some (.ref c.lend)
  oLeave : MkO K c.leave
  oCount : MkO K c.count
  oLend : MkO K c.lend
  cKept : ∃ a, mg "KEPT_ANSWERS" = some (.ref a) ∧ KTup K a [.str "good", .str "all"]
  cLives : ∃ a, mg "LIVES" = some (.ref a) ∧ KTup K a [.int 0, .int 1, .int 2, .int 3]
  cAsked : ∃ a, mg "MOST_ASKED" = some (.ref a) ∧ KTup K a [.int 1, .int 2, .int 3]
  cTries : ∃ a, mg "MOST_TRIES" = some (.ref a) ∧ KTup K a [.int 1, .int 2, .int 3, .int 4, .int 5, .int 6]
  cFaults : ∃ a, mg "FAULTS" = some (.ref a) ∧ KTup K a [.str "fault", .str "all"]
  isi : mg "isinstance" = none
  str : mg "str" = none
  int_ : mg "int" = none
  bool_ : mg "bool" = none
/-! ### promises -/
def spIsInt : Sp := fun vs H Q _ => ∃ i : Int, vs = [.int i] ∧ Q (.bl true) H
def spIsOne (K : PySem.W.Frag) : Sp := fun vs H Q _ => ∃ (i : Int) (a : Addr) (ns : List Int), vs = [.int i, .ref a] ∧ KTup K a (ns.map V.int) ∧ Q (.bl (decide (i ∈ ns))) H
def spCheck : Sp := fun vs H Q _ => ∃ x : V, vs = [x, .bl true] ∧ Q .non H
def spKeep (c : Cs) : Sp := fun vs H Q _ => ∃ (p dx : Addr) (w : Bool) (l : Option Nat), vs = [.ref p, .str (wS w), lV l] ∧ (R.keep w l).ok = true ∧ H p = some (.ins c.keep dx []) ∧ ∀ H' : Hp, RowAt c H' p (.keep w l) → (∀ b o, H b = some o → b ≠ p → H' b = some o) → Q .non H'
def spTries (c : Cs) : Sp := fun vs H Q _ => ∃ (p dx : Addr) (n : Nat) (a : Bool), vs = [.ref p, .int n, .str (aS a)] ∧ (R.tries n a).ok = true ∧ H p = some (.ins c.tries dx []) ∧ ∀ H' : Hp, RowAt c H' p (.tries n a) → (∀ b o, H b = some o → b ≠ p → H' b = some o) → Q .non H'
def spLimit (c : Cs) : Sp := fun vs H Q _ => ∃ (p dx : Addr) (n : Nat), vs = [.ref p, .int n] ∧ (R.limit n).ok = true ∧ H p = some (.ins c.limit dx []) ∧ ∀ H' : Hp, RowAt c H' p (.limit n) → (∀ b o, H b = some o → b ≠ p → H' b = some o) → Q .non H'
def spSoft (c : Cs) : Sp := fun vs H Q _ => ∃ (p dx : Addr) (a : Bool), vs = [.ref p, .str (aS a)] ∧ H p = some (.ins c.soft dx []) ∧ ∀ H' : Hp, RowAt c H' p (.soft a) → (∀ b o, H b = some o → b ≠ p → H' b = some o) → Q .non H'
/-- words: a new tuple -/
def spWords (c : Cs) (P : R → Prop) : Sp := fun vs H Q _ => ∃ (p : Addr) (r : R), vs = [.ref p] ∧ P r ∧ r.ok = true ∧ RowAt c H p r ∧ ∀ t, H t = none → Q (.ref t) (upd H t (.tup (r.words.map V.str)))
def spStr (c : Cs) : Sp := fun vs H Q _ => ∃ (p : Addr) (r : R), vs = [.ref p] ∧ r.ok = true ∧ RowAt c H p r ∧ ∀ H', Same H H' → Q (.str r.text) H'
/-- what is no row -/
def NoRow' (K : PySem.W.Frag) (c : Cs) (H : Hp) (y : V) : Prop := ∃ t, TyX K H y t ∧ PySem.W.kitOne K t (.ref c.row) = some false
def spEq (K : PySem.W.Frag) (c : Cs) : Sp := fun vs H Q _ => ∃ (p : Addr) (r : R) (y : V), vs = [.ref p, y] ∧ r.ok = true ∧ RowAt c H p r ∧
  ((∃ q s, y = .ref q ∧ s.ok = true ∧ RowAt c H q s ∧ ∀ H', Same H H' → Q (.bl (decide (r = s))) H') ∨ (NoRow' K c H y ∧ Q (.bl false) H))
end Ow
end
section
namespace Ow
open PySem L2 Own
section
variable {P : Program} {w : World} {K : PySem.W.Frag} {mg : Str → Option Value} {base : Heap} {c : Cs} {gs ge : Addr}
theorem small_len {n : Nat} (h : n ≤ 1000) : n ≤ sizeLine := Nat.le_of_lt (small1000 h)
/-! ### is_integer, is_one_of, check_argument -/
theorem sc_is_integer : FnScope ["value"] ["value"] (defScope s_is_integer) := ⟨rfl, rfl, rfl, by decide +kernel, rfl, by decide +kernel, by decide +kernel⟩
theorem ok_is_integer {f : Addr} {fd : FuncData} (F : Fun K "is_integer" "is_integer" s_is_integer f fd) (T : Txt' K mg c gs ge) : FnOk P w K mg base CX0 1 f fd ["value"] spIsInt := by
  refine F.ok sc_is_integer (fun vs H Q E h => ?_) (fun cdv A outer s H vs Q E hr h => ?_)
  · obtain ⟨i, rfl, _⟩ := h
    rfl
  · obtain ⟨i, rfl, k⟩ := h
    refine ⟨_, pss_one (ps_ret (pe_and (pe_callB call_isi (by rfl) T.isi (by decide +kernel) (pa_cons (pv 0) (pa_cons (pe_bltn (by rfl) T.int_ (by decide +kernel) (v := .ty "int") rfl) pa_nil)))
      (pe_one (pe_not (pe_callB call_isi (by rfl) T.isi (by decide +kernel) (pa_cons (pv 0) (pa_cons (pe_bltn (by rfl) T.bool_ (by decide +kernel) (v := .ty "bool") rfl) pa_nil))))))), ?_⟩
    refine ⟨_, rfl, _, _, _, _, true, rfl, .ty _, .base (.int i), kit_ty (by decide +kernel), true, rfl, iteT ?_⟩
    refine ⟨_, rfl, _, _, _, _, false, rfl, .ty _, .base (.int i), kit_ty (by decide +kernel), false, rfl, ?_⟩
    exact k
theorem sc_is_one_of : FnScope ["value", "numbers"] ["value", "numbers"] (defScope s_is_one_of) := ⟨rfl, rfl, rfl, by decide +kernel, rfl, by decide +kernel, by decide +kernel⟩
theorem inV_ints (i : Int) : ∀ ns : List Int, inV (.int i) (ns.map V.int) = decide (i ∈ ns)
  | [] => by simp [inV]
  | n :: r => by
    have ih := inV_ints i r
    unfold inV at ih ⊢
    rw [List.map_cons, List.any_cons, ih]
    by_cases e : n = i
    · subst e
      simp [eqV]
    · have e' : ¬ i = n := fun z => e z.symm
      simp [eqV, e, e']
theorem flat_ints : ∀ ns : List Int, (ns.map V.int).all flatV = true
  | [] => rfl
  | n :: r => by rw [List.map_cons, List.all_cons, flat_ints r]; rfl
theorem ok_is_one_of {f fI : Addr} {fd fdI : FuncData} (F : Fun K "is_one_of" "is_one_of" s_is_one_of f fd) (T : Txt' K mg c gs ge) (FI : Fun K "is_integer" "is_integer" s_is_integer fI fdI) (bI : Binds K fdI ["value"] []) (mI : mg "is_integer" = some (.ref fI)) :
    FnOk P w K mg base CX0 2 f fd ["value", "numbers"] (spIsOne K) := by
  have GI : FnOk P w K mg base CX0 1 fI fdI ["value"] spIsInt := ok_is_integer FI T
  refine F.ok sc_is_one_of (fun vs H Q E h => ?_) (fun cdv A outer s H vs Q E hr h => ?_)
  · obtain ⟨i, a, ns, rfl, _⟩ := h
    rfl
  · obtain ⟨i, a, ns, rfl, kt, k⟩ := h
    refine ⟨_, pss_one (ps_ret (pe_and (pe_call GI hr (by rfl) mI FI.kp bI .nil pass0 (pa_cons (pv 0) pa_nil)) (pe_one (pe_cmpR op_in_seq (pv 0) (pv 1) (by rfl))))), ?_⟩
    refine ⟨_, rfl, i, rfl, true, rfl, iteT ?_⟩
    refine ⟨_, rfl, _, rfl, a, _, rfl, .inr (kt H), rfl, flat_ints ns, ?_⟩
    show Q (.bl (inV (.int i) (ns.map V.int))) H
    rw [inV_ints]
    exact k
theorem sc_check : FnScope ["word", "is_right"] ["word", "is_right"] (defScope s_check_argument) := ⟨rfl, rfl, rfl, by decide +kernel, rfl, by decide +kernel, by decide +kernel⟩
theorem ok_check {f : Addr} {fd : FuncData} (F : Fun K "check_argument" "check_argument" s_check_argument f fd) : FnOk P w K mg base CX0 1 f fd ["word", "is_right"] spCheck := by
  refine F.ok sc_check (fun vs H Q E h => ?_) (fun cdv A outer s H vs Q E hr h => ?_)
  · obtain ⟨x, rfl, _⟩ := h
    rfl
  · obtain ⟨x, rfl, k⟩ := h
    refine ⟨_, pss_one (ps_if (pt_not (pt_val (pv 1))) pss_never pss_nil), ?_⟩
    refine ⟨_, rfl, true, rfl, iteF k⟩

/-! ### the classes' __init__ -/
theorem chk {x : V} {b : Bool} {H : Hp} {Q : VK} {E : XK} (h : b = true) (k : Q .non H) : spCheck [x, .bl b] H Q E := ⟨x, by rw [h], k⟩
theorem flat_strs : ∀ ns : List Str, (ns.map V.str).all flatV = true
  | [] => rfl
  | n :: r => by rw [List.map_cons, List.all_cons, flat_strs r]; rfl
theorem sc_Keep : FnScope ["self", "what", "life"] ["self", "what", "life"] (defScope s_Keep_init) := ⟨rfl, rfl, rfl, by decide +kernel, rfl, by decide +kernel, by decide +kernel⟩
/-- what the defs that the rows call promise, and where they stand -/
structure Low (P : Program) (w : World) (K : PySem.W.Frag) (mg : Str → Option Value) (base : Heap) (fO fC : Addr) (dO dC : FuncData) : Prop where
  gO : FnOk P w K mg base CX0 2 fO dO ["value", "numbers"] (spIsOne K)
  bO : Binds K dO ["value", "numbers"] []
  mO : mg "is_one_of" = some (.ref fO)
  kO : PySem.W.keepIn K (.ref fO) = true
  gC : FnOk P w K mg base CX0 1 fC dC ["word", "is_right"] spCheck
  bC : Binds K dC ["word", "is_right"] []
  mC : mg "check_argument" = some (.ref fC)
  kC : PySem.W.keepIn K (.ref fC) = true
theorem ok_Keep {f fO fC : Addr} {fd dO dC : FuncData} {dvs : List V} (F : FunD K "__init__" "Keep.__init__" (defArgs s_Keep_init) (defBody s_Keep_init) (defScope s_Keep_init) dvs [] f fd) (T : Txt' K mg c gs ge) (L : Low P w K mg base fO fC dO dC) :
    FnOk P w K mg base CX0 3 f fd ["self", "what", "life"] (spKeep c) := by
  refine F.ok sc_Keep (fun vs H Q E h => ?_) (fun cdv A outer s H vs Q E hr h => ?_)
  · obtain ⟨p, dx, w, l, rfl, _⟩ := h
    rfl
  · obtain ⟨p, dx, wh, l, rfl, hok, hp, k⟩ := h
    obtain ⟨aK, mK, kK⟩ := T.cKept
    obtain ⟨aL, mL, kL⟩ := T.cLives
    have hr1 : Room 1 _ := hr.mono (by decide)
    refine ⟨_, pss_cons (ps_expr (pe_call L.gC hr1 (by rfl) L.mC L.kC L.bC .nil pass0 (pa_cons pe_str (pa_cons (pe_cmpR op_in_seq (pv 1) (pe_glob (v := .ref aK) (by rfl) mK rfl) (by rfl)) pa_nil))))
      (pss_cons (ps_expr (pe_call L.gC hr1 (by rfl) L.mC L.kC L.bC .nil pass0 (pa_cons pe_str (pa_cons (pe_or (pe_cmp (pc_isN (pv 2)) rfl) (pe_one (pe_call L.gO hr (by rfl) L.mO L.kO L.bO .nil pass0 (pa_cons (pv 2) (pa_cons (pe_glob (v := .ref aL) (by rfl) mL rfl) pa_nil))))) pa_nil))))
      (pss_cons (ps_fld (pv 0) (pv 1) rfl) (pss_one (ps_fld (pv 0) (pv 2) rfl)))), ?_⟩
    refine ⟨_, rfl, aK, _, rfl, .inr (kK H), by cases wh <;> rfl, by rfl, ?_⟩
    refine ⟨_, by cases wh <;> rfl, ?_⟩
    refine ⟨_, rfl, _, rfl, ?_⟩
    have go : tSeq (sFld K (tVar 0) (tVar 1) "what") (sFld K (tVar 0) (tVar 2) "life") { nx := fun _ H' => Q .non H', rt := Q } (start ["self", "what", "life"] [.ref p, .str (wS wh), lV l]) H := by
      refine ⟨_, rfl, _, rfl, p, c.keep, dx, [], rfl, hp, (T.own (.keep wh l)).cl, T.nW, (by show 0 < 1000; decide), ?_⟩
      refine ⟨_, rfl, _, rfl, p, c.keep, dx, _, rfl, upd_same, (T.own (.keep wh l)).cl, T.nL, (by show 1 < 1000; decide), ?_⟩
      exact k _ ⟨dx, upd_same⟩ fun b o e hb => by rw [upd_ne hb, upd_ne hb]; exact e
    cases l with
    | none => exact iteT ⟨_, rfl, go⟩
    | some n =>
      have hn : n ≤ 3 := of_decide_eq_true hok
      have hd : decide (((n : Nat) : Int) ∈ ([0, 1, 2, 3] : List Int)) = true := by
        have e : n = 0 ∨ n = 1 ∨ n = 2 ∨ n = 3 := by omega
        rcases e with rfl | rfl | rfl | rfl <;> rfl
      exact iteF ⟨_, rfl, n, aL, [0, 1, 2, 3], rfl, kL, _, congrArg (fun b => [V.str "life", V.bl b]) hd, go⟩
theorem sc_Tries : FnScope ["self", "many", "on"] ["self", "many", "on"] (defScope s_Tries_init) := ⟨rfl, rfl, rfl, by decide +kernel, rfl, by decide +kernel, by decide +kernel⟩
theorem ok_Tries {f fO fC : Addr} {fd dO dC : FuncData} {dvs : List V} (F : FunD K "__init__" "Tries.__init__" (defArgs s_Tries_init) (defBody s_Tries_init) (defScope s_Tries_init) dvs [] f fd) (T : Txt' K mg c gs ge) (L : Low P w K mg base fO fC dO dC) :
    FnOk P w K mg base CX0 3 f fd ["self", "many", "on"] (spTries c) := by
  refine F.ok sc_Tries (fun vs H Q E h => ?_) (fun cdv A outer s H vs Q E hr h => ?_)
  · obtain ⟨p, dx, n, a, rfl, _⟩ := h
    rfl
  · obtain ⟨p, dx, n, a, rfl, hok, hp, k⟩ := h
    obtain ⟨aM, mM, kM⟩ := T.cAsked
    obtain ⟨aF, mF, kF⟩ := T.cFaults
    have hr1 : Room 1 _ := hr.mono (by decide)
    refine ⟨_, pss_cons (ps_expr (pe_call L.gC hr1 (by rfl) L.mC L.kC L.bC .nil pass0 (pa_cons pe_str (pa_cons (pe_call L.gO hr (by rfl) L.mO L.kO L.bO .nil pass0 (pa_cons (pv 1) (pa_cons (pe_glob (v := .ref aM) (by rfl) mM rfl) pa_nil))) pa_nil))))
      (pss_cons (ps_expr (pe_call L.gC hr1 (by rfl) L.mC L.kC L.bC .nil pass0 (pa_cons pe_str (pa_cons (pe_cmpR op_in_seq (pv 2) (pe_glob (v := .ref aF) (by rfl) mF rfl) (by rfl)) pa_nil))))
      (pss_cons (ps_fld (pv 0) (pv 1) rfl) (pss_one (ps_fld (pv 0) (pv 2) rfl)))), ?_⟩
    have hn : 1 ≤ n ∧ n ≤ 3 := of_decide_eq_true hok
    have hd : decide (((n : Nat) : Int) ∈ ([1, 2, 3] : List Int)) = true := by
      have e : n = 1 ∨ n = 2 ∨ n = 3 := by omega
      rcases e with rfl | rfl | rfl <;> rfl
    refine ⟨_, rfl, n, aM, [1, 2, 3], rfl, kM, _, congrArg (fun b => [V.str "many", V.bl b]) hd, ?_⟩
    refine ⟨_, rfl, aF, _, rfl, .inr (kF H), by cases a <;> rfl, by rfl, ?_⟩
    refine ⟨_, by cases a <;> rfl, ?_⟩
    refine ⟨_, rfl, _, rfl, p, c.tries, dx, [], rfl, hp, (T.own (.tries n a)).cl, T.tM, (by show 0 < 1000; decide), ?_⟩
    refine ⟨_, rfl, _, rfl, p, c.tries, dx, _, rfl, upd_same, (T.own (.tries n a)).cl, T.tO, (by show 1 < 1000; decide), ?_⟩
    exact k _ ⟨dx, upd_same⟩ fun b o e hb => by rw [upd_ne hb, upd_ne hb]; exact e
theorem sc_Limit : FnScope ["self", "many"] ["self", "many"] (defScope s_Limit_init) := ⟨rfl, rfl, rfl, by decide +kernel, rfl, by decide +kernel, by decide +kernel⟩
theorem ok_Limit {f fO fC : Addr} {fd dO dC : FuncData} (F : Fun K "__init__" "Limit.__init__" s_Limit_init f fd) (T : Txt' K mg c gs ge) (L : Low P w K mg base fO fC dO dC) :
    FnOk P w K mg base CX0 3 f fd ["self", "many"] (spLimit c) := by
  refine F.ok sc_Limit (fun vs H Q E h => ?_) (fun cdv A outer s H vs Q E hr h => ?_)
  · obtain ⟨p, dx, n, rfl, _⟩ := h
    rfl
  · obtain ⟨p, dx, n, rfl, hok, hp, k⟩ := h
    obtain ⟨aM, mM, kM⟩ := T.cTries
    have hr1 : Room 1 _ := hr.mono (by decide)
    refine ⟨_, pss_cons (ps_expr (pe_call L.gC hr1 (by rfl) L.mC L.kC L.bC .nil pass0 (pa_cons pe_str (pa_cons (pe_call L.gO hr (by rfl) L.mO L.kO L.bO .nil pass0 (pa_cons (pv 1) (pa_cons (pe_glob (v := .ref aM) (by rfl) mM rfl) pa_nil))) pa_nil))))
      (pss_one (ps_fld (pv 0) (pv 1) rfl)), ?_⟩
    have hn : 1 ≤ n ∧ n ≤ 6 := of_decide_eq_true hok
    have hd : decide (((n : Nat) : Int) ∈ ([1, 2, 3, 4, 5, 6] : List Int)) = true := by
      have e : n = 1 ∨ n = 2 ∨ n = 3 ∨ n = 4 ∨ n = 5 ∨ n = 6 := by omega
      rcases e with rfl | rfl | rfl | rfl | rfl | rfl <;> rfl
    refine ⟨_, rfl, n, aM, [1, 2, 3, 4, 5, 6], rfl, kM, _, congrArg (fun b => [V.str "many", V.bl b]) hd, ?_⟩
    refine ⟨_, rfl, _, rfl, p, c.limit, dx, [], rfl, hp, (T.own (.limit n)).cl, T.lM, (by show 0 < 1000; decide), ?_⟩
    exact k _ ⟨dx, upd_same⟩ fun b o e hb => by rw [upd_ne hb]; exact e
theorem sc_Soft : FnScope ["self", "on"] ["self", "on"] (defScope s_Soft_init) := ⟨rfl, rfl, rfl, by decide +kernel, rfl, by decide +kernel, by decide +kernel⟩
theorem ok_Soft {f fO fC : Addr} {fd dO dC : FuncData} {dvs : List V} (F : FunD K "__init__" "Soft.__init__" (defArgs s_Soft_init) (defBody s_Soft_init) (defScope s_Soft_init) dvs [] f fd) (T : Txt' K mg c gs ge) (L : Low P w K mg base fO fC dO dC) :
    FnOk P w K mg base CX0 3 f fd ["self", "on"] (spSoft c) := by
  refine F.ok sc_Soft (fun vs H Q E h => ?_) (fun cdv A outer s H vs Q E hr h => ?_)
  · obtain ⟨p, dx, a, rfl, _⟩ := h
    rfl
  · obtain ⟨p, dx, a, rfl, hp, k⟩ := h
    obtain ⟨aF, mF, kF⟩ := T.cFaults
    have hr1 : Room 1 _ := hr.mono (by decide)
    refine ⟨_, pss_cons (ps_expr (pe_call L.gC hr1 (by rfl) L.mC L.kC L.bC .nil pass0 (pa_cons pe_str (pa_cons (pe_cmpR op_in_seq (pv 1) (pe_glob (v := .ref aF) (by rfl) mF rfl) (by rfl)) pa_nil))))
      (pss_one (ps_fld (pv 0) (pv 1) rfl)), ?_⟩
    refine ⟨_, rfl, aF, _, rfl, .inr (kF H), by cases a <;> rfl, by rfl, ?_⟩
    refine ⟨_, by cases a <;> rfl, ?_⟩
    refine ⟨_, rfl, _, rfl, p, c.soft, dx, [], rfl, hp, (T.own (.soft a)).cl, T.sO, (by show 0 < 1000; decide), ?_⟩
    exact k _ ⟨dx, upd_same⟩ fun b o e hb => by rw [upd_ne hb]; exact e
/-! ### words -/
theorem ok_wLeave {f : Addr} {fd : FuncData} (F : Fun K "words" "Leave.words" s_Leave_words f fd) : FnOk P w K mg base CX0 1 f fd ["self"] (spWords c fun r => r = .leave) := by
  refine F.ok (show FnScope ["self"] ["self"] (defScope s_Leave_words) from ⟨rfl, rfl, rfl, by decide +kernel, rfl, by decide +kernel, by decide +kernel⟩) (fun vs H Q E h => ?_) (fun cdv A outer s H vs Q E hr h => ?_)
  · obtain ⟨p, r, rfl, _⟩ := h
    rfl
  · obtain ⟨p, r, rfl, rfl, hok, hp, k⟩ := h
    refine ⟨_, pss_one (ps_ret (pe_tup (pa_cons pe_str pa_nil))), ?_⟩
    exact ⟨by show 1 ≤ sizeLine; decide, fun t ht => k t ht⟩
theorem ok_wCount {f : Addr} {fd : FuncData} (F : Fun K "words" "Count.words" s_Count_words f fd) : FnOk P w K mg base CX0 1 f fd ["self"] (spWords c fun r => r = .count) := by
  refine F.ok (show FnScope ["self"] ["self"] (defScope s_Count_words) from ⟨rfl, rfl, rfl, by decide +kernel, rfl, by decide +kernel, by decide +kernel⟩) (fun vs H Q E h => ?_) (fun cdv A outer s H vs Q E hr h => ?_)
  · obtain ⟨p, r, rfl, _⟩ := h
    rfl
  · obtain ⟨p, r, rfl, rfl, hok, hp, k⟩ := h
    refine ⟨_, pss_one (ps_ret (pe_tup (pa_cons pe_str pa_nil))), ?_⟩
    exact ⟨by show 1 ≤ sizeLine; decide, fun t ht => k t ht⟩
theorem ok_wLend {f : Addr} {fd : FuncData} (F : Fun K "words" "Lend.words" s_Lend_words f fd) : FnOk P w K mg base CX0 1 f fd ["self"] (spWords c fun r => r = .lend) := by
  refine F.ok (show FnScope ["self"] ["self"] (defScope s_Lend_words) from ⟨rfl, rfl, rfl, by decide +kernel, rfl, by decide +kernel, by decide +kernel⟩) (fun vs H Q E h => ?_) (fun cdv A outer s H vs Q E hr h => ?_)
  · obtain ⟨p, r, rfl, _⟩ := h
    rfl
  · obtain ⟨p, r, rfl, rfl, hok, hp, k⟩ := h
    refine ⟨_, pss_one (ps_ret (pe_tup (pa_cons pe_str pa_nil))), ?_⟩
    exact ⟨by show 1 ≤ sizeLine; decide, fun t ht => k t ht⟩
theorem ok_wSoft {f : Addr} {fd : FuncData} (F : Fun K "words" "Soft.words" s_Soft_words f fd) (T : Txt' K mg c gs ge) : FnOk P w K mg base CX0 1 f fd ["self"] (spWords c fun r => ∃ a, r = .soft a) := by
  refine F.ok (show FnScope ["self"] ["self"] (defScope s_Soft_words) from ⟨rfl, rfl, rfl, by decide +kernel, rfl, by decide +kernel, by decide +kernel⟩) (fun vs H Q E h => ?_) (fun cdv A outer s H vs Q E hr h => ?_)
  · obtain ⟨p, r, rfl, _⟩ := h
    rfl
  · obtain ⟨p, r, rfl, ⟨a, rfl⟩, hok, ⟨dx, hp⟩, k⟩ := h
    refine ⟨_, pss_one (ps_ret (pe_tup (pa_cons pe_str (pa_cons (pe_fld (pv 0) rfl) pa_nil)))), ?_⟩
    exact ⟨_, rfl, p, c.soft, dx, _, _, rfl, hp, (T.own (.soft a)).cl, T.sO, fSoft_on a, by show 2 ≤ sizeLine; decide, fun t ht => k t ht⟩
theorem log_small {n : Nat} (h : n ≤ 6) : ((n : Nat) : Int).natAbs.log2 < 1920 := by
  have e : n = 0 ∨ n = 1 ∨ n = 2 ∨ n = 3 ∨ n = 4 ∨ n = 5 ∨ n = 6 := by omega
  rcases e with rfl | rfl | rfl | rfl | rfl | rfl | rfl <;> decide
theorem ok_wLimit {f : Addr} {fd : FuncData} (F : Fun K "words" "Limit.words" s_Limit_words f fd) (T : Txt' K mg c gs ge) : FnOk P w K mg base CX0 1 f fd ["self"] (spWords c fun r => ∃ n, r = .limit n) := by
  refine F.ok (show FnScope ["self"] ["self"] (defScope s_Limit_words) from ⟨rfl, rfl, rfl, by decide +kernel, rfl, by decide +kernel, by decide +kernel⟩) (fun vs H Q E h => ?_) (fun cdv A outer s H vs Q E hr h => ?_)
  · obtain ⟨p, r, rfl, _⟩ := h
    rfl
  · obtain ⟨p, r, rfl, ⟨n, rfl⟩, hok, ⟨dx, hp⟩, k⟩ := h
    have hn : 1 ≤ n ∧ n ≤ 6 := of_decide_eq_true hok
    refine ⟨_, pss_one (ps_ret (pe_tup (pa_cons pe_str (pa_cons (pe_callTy call_str_int (by rfl) T.str (by decide +kernel) (pa_cons (pe_fld (pv 0) rfl) pa_nil)) pa_nil)))), ?_⟩
    exact ⟨_, rfl, p, c.limit, dx, _, _, rfl, hp, (T.own (.limit n)).cl, T.lM, fLimit_many n, _, rfl, log_small hn.2, by show 2 ≤ sizeLine; decide, fun t ht => k t ht⟩
theorem ok_wTries {f : Addr} {fd : FuncData} (F : Fun K "words" "Tries.words" s_Tries_words f fd) (T : Txt' K mg c gs ge) : FnOk P w K mg base CX0 1 f fd ["self"] (spWords c fun r => ∃ n a, r = .tries n a) := by
  refine F.ok (show FnScope ["self"] ["self"] (defScope s_Tries_words) from ⟨rfl, rfl, rfl, by decide +kernel, rfl, by decide +kernel, by decide +kernel⟩) (fun vs H Q E h => ?_) (fun cdv A outer s H vs Q E hr h => ?_)
  · obtain ⟨p, r, rfl, _⟩ := h
    rfl
  · obtain ⟨p, r, rfl, ⟨n, a, rfl⟩, hok, ⟨dx, hp⟩, k⟩ := h
    have hn : 1 ≤ n ∧ n ≤ 3 := of_decide_eq_true hok
    refine ⟨_, pss_one (ps_ret (pe_tup (pa_cons pe_str (pa_cons (pe_callTy call_str_int (by rfl) T.str (by decide +kernel) (pa_cons (pe_fld (pv 0) rfl) pa_nil)) (pa_cons (pe_fld (pv 0) rfl) pa_nil))))), ?_⟩
    exact ⟨_, rfl, p, c.tries, dx, _, _, rfl, hp, (T.own (.tries n a)).cl, T.tM, fTries_many n a, _, rfl, log_small (by omega), _, rfl, p, c.tries, dx, _, _, rfl, hp, (T.own (.tries n a)).cl, T.tO, fTries_on n a, by show 3 ≤ sizeLine; decide, fun t ht => k t ht⟩
theorem sc_wKeep : FnScope ["self", "life"] ["self"] (defScope s_Keep_words) := ⟨rfl, rfl, rfl, by decide +kernel, rfl, by decide +kernel, by decide +kernel⟩
theorem ok_wKeep {f : Addr} {fd : FuncData} (F : Fun K "words" "Keep.words" s_Keep_words f fd) (T : Txt' K mg c gs ge) : FnOk P w K mg base CX0 1 f fd ["self"] (spWords c fun r => ∃ w l, r = .keep w l) := by
  refine F.ok sc_wKeep (fun vs H Q E h => ?_) (fun cdv A outer s H vs Q E hr h => ?_)
  · obtain ⟨p, r, rfl, _⟩ := h
    rfl
  · obtain ⟨p, r, rfl, ⟨wh, l, rfl⟩, hok, ⟨dx, hp⟩, k⟩ := h
    refine ⟨_, pss_cons (ps_set (i := 1) sc_wKeep.nd rfl (Or.inl rfl) (pe_ifExp (pt_cmp (pc_isN (pe_fld (pv 0) rfl))) pe_str (pe_callTy call_str_int (by rfl) T.str (by decide +kernel) (pa_cons (pe_fld (pv 0) rfl) pa_nil))))
      (pss_one (ps_ret (pe_tup (pa_cons pe_str (pa_cons (pe_fld (pv 0) rfl) (pa_cons (pv 1) pa_nil)))))), ?_⟩
    refine ⟨_, rfl, p, c.keep, dx, _, _, rfl, hp, (T.own (.keep wh l)).cl, T.nL, fKeep_life wh l, _, rfl, ?_⟩
    cases l with
    | none =>
      refine iteT ?_
      exact ⟨_, rfl, p, c.keep, dx, _, _, rfl, hp, (T.own (.keep wh none)).cl, T.nW, fKeep_what wh none, _, rfl, by show 3 ≤ sizeLine; decide, fun t ht => k t ht⟩
    | some n =>
      have hn : n ≤ 3 := of_decide_eq_true hok
      refine iteF ?_
      refine ⟨_, rfl, p, c.keep, dx, _, _, rfl, hp, (T.own (.keep wh (some n))).cl, T.nL, fKeep_life wh (some n), _, rfl, log_small (by omega), ?_⟩
      exact ⟨_, rfl, p, c.keep, dx, _, _, rfl, hp, (T.own (.keep wh (some n))).cl, T.nW, fKeep_what wh (some n), _, rfl, by show 3 ≤ sizeLine; decide, fun t ht => k t ht⟩
end
end Ow
end
section
namespace Ow
open PySem L2 Own
section
variable {P : Program} {w : World} {K : PySem.W.Frag} {mg : Str → Option Value} {base : Heap} {c : Cs} {gs ge : Addr}
/-- each class's words -/
def WordsOk (P : Program) (w : World) (K : PySem.W.Frag) (mg : Str → Option Value) (base : Heap) (c : Cs) : Prop :=
  ∀ r : R, ∃ (f : Addr) (fd : FuncData), Meth K (c.of r) "words" f ∧ Binds K fd ["self"] [] ∧ FnOk P w K mg base CX0 1 f fd ["self"] (spWords c fun s => s = r)
theorem no_words (r : R) : (fsOf r).lookup ("words" : Str) = none := fs_no r (by decide +kernel) (by decide +kernel) (by decide +kernel) (by decide +kernel)
theorem sc_str : FnScope ["self"] ["self"] (defScope s_Row_str) := ⟨rfl, rfl, rfl, by decide +kernel, rfl, by decide +kernel, by decide +kernel⟩
theorem ok_str {f : Addr} {fd : FuncData} (F : Fun K "__str__" "Row.__str__" s_Row_str f fd) (T : Txt' K mg c gs ge) (Wd : WordsOk P w K mg base c) : FnOk P w K mg base CX0 2 f fd ["self"] (spStr c) := by
  refine F.ok sc_str (fun vs H Q E h => ?_) (fun cdv A outer s H vs Q E hr h => ?_)
  · obtain ⟨p, r, rfl, _⟩ := h
    rfl
  · obtain ⟨p, r, rfl, hok, ⟨dx, hp⟩, k⟩ := h
    obtain ⟨fw, dw, mW, bW, GW⟩ := Wd r
    refine ⟨_, pss_one (ps_ret (pe_join pe_str (pe_meth0 (pv 0) (T.own r).cl mW GW hr bW .nil pass0))), ?_⟩
    refine ⟨⟨_, rfl⟩, _, rfl, p, dx, _, rfl, hp, no_words r, p, r, rfl, rfl, hok, ⟨dx, hp⟩, fun t ht => ?_⟩
    refine ⟨_, t, r.words, rfl, rfl, .inr (SqT.of upd_same), (text_small hok).1, ?_⟩
    exact k _ fun b o e => by rw [upd_ne (ne_of_none e ht)]; exact e
theorem sc_eq : FnScope ["self", "other"] ["self", "other"] (defScope s_Row_eq) := ⟨rfl, rfl, rfl, by decide +kernel, rfl, by decide +kernel, by decide +kernel⟩
theorem ok_eq {f : Addr} {fd ds : FuncData} (F : Fun K "__eq__" "Row.__eq__" s_Row_eq f fd) (T : Txt' K mg c gs ge) (GS : FnOk P w K mg base CX0 2 gs ds ["self"] (spStr c)) (bS : Binds K ds ["self"] []) : FnOk P w K mg base CX0 5 f fd ["self", "other"] (spEq K c) := by
  have RS := GS.raw bS .nil
  refine F.ok sc_eq (fun vs H Q E h => ?_) (fun cdv A outer s H vs Q E hr h => ?_)
  · obtain ⟨p, r, y, rfl, _⟩ := h
    rfl
  · obtain ⟨p, r, y, rfl, hok, ⟨dx, hp⟩, h⟩ := h
    refine ⟨_, pss_one (ps_ret (pe_and (pe_callB call_isi (by rfl) T.isi (by decide +kernel) (pa_cons (pv 1) (pa_cons (pe_glob (v := .ref c.row) (by rfl) T.mRow rfl) pa_nil)))
      (pe_one (pe_cmpR op_eq (pe_callTy (call_strOwn RS hr pass0) (by rfl) T.str (by decide +kernel) (pa_cons (pv 0) pa_nil)) (pe_callTy (call_strOwn RS hr pass0) (by rfl) T.str (by decide +kernel) (pa_cons (pv 1) pa_nil)) (nomark _))))), ?_⟩
    rcases h with ⟨q, s, rfl, sok, ⟨dy, hq⟩, k⟩ | ⟨⟨t, ty, hk⟩, k⟩
    · refine ⟨_, rfl, _, _, _, _, true, rfl, .own _, (T.own s).ty hq, T.isR s, true, rfl, iteT ?_⟩
      refine ⟨_, rfl, p, c.of r, dx, _, ge, rfl, hp, T.own r, p, r, rfl, hok, ⟨dx, hp⟩, fun H1 s1 => ⟨_, rfl, ?_⟩⟩
      refine ⟨_, rfl, q, c.of s, dy, _, ge, rfl, s1 _ _ hq, T.own s, q, s, rfl, sok, ⟨dy, s1 _ _ hq⟩, fun H2 s2 => ⟨_, rfl, rfl, ?_⟩⟩
      show Q (.bl (decide (V.str r.text = V.str s.text))) H2
      rw [text_eq hok sok]
      exact k _ (s1.trans s2)
    · exact ⟨_, rfl, _, _, _, _, false, rfl, .own _, ty, hk, false, rfl, iteF k⟩
/-! ### a walk over a tuple, whatever its turn -/
theorem walk_tt {K : PySem.W.Frag} {a : Addr} {xs : List V} {H0 : Hp} {Qd : Hp → Prop} {BODY : (Hp → Prop) → V → Hp → Prop} (Pv : Nat → Hp → Prop) (h0 : Pv 0 H0) (hl : ∀ i H, i ≤ xs.length → Pv i H → SqT K H a xs)
    (hs : ∀ i x H, xs[i]? = some x → Pv i H → BODY (Pv (i + 1)) x H) (hd : ∀ H, Pv xs.length H → Qd H) :
    ∃ W : Nat → Nat → Hp → Prop, (∃ m, W 0 m H0) ∧ ∀ i m H, W i m H →
      ((Itt K a).stop i H ∧ Qd H) ∨ ((Itt K a).go i H ∧ ∃ Nx : Hp → Prop, (∀ H', Nx H' → ∃ m', m' < m ∧ W (i + 1) m' H') ∧ ∀ x H', (Itt K a).yld i H x H' → BODY Nx x H') := by
  refine ⟨fun i m H => m = xs.length - i ∧ i ≤ xs.length ∧ Pv i H, ⟨xs.length, by simp, Nat.zero_le _, h0⟩, ?_⟩
  rintro i m H ⟨rfl, hi, p⟩
  have q := hl i H hi p
  by_cases hlt : i < xs.length
  · refine .inr ⟨⟨xs, xs[i], q, by simp [hlt]⟩, Pv (i + 1), fun H' p' => ⟨xs.length - (i + 1), by omega, rfl, hlt, p'⟩, fun x H' y => ?_⟩
    obtain ⟨e, y⟩ := y
    subst e
    exact hs i x _ (y xs q) p
  · have e : i = xs.length := by omega
    subst e
    exact .inl ⟨⟨xs, q, Nat.le_refl _⟩, hd H p⟩
/-! ### lists of rows -/
def RowsAt (c : Cs) (H : Hp) : List Addr → List R → Prop := Paired (RowAt c H)
theorem RowsAt.same {c : Cs} {H H' : Hp} {ps : List Addr} {rs : List R} (s : Same H H') (h : RowsAt c H ps rs) : RowsAt c H' ps rs := Paired.mapP h fun _ _ => RowAt.same s
theorem RowsAt.snoc {c : Cs} {H : Hp} : ∀ {ps : List Addr} {rs : List R} {q : Addr} {r : R}, RowsAt c H ps rs → RowAt c H q r → RowsAt c H (ps ++ [q]) (rs ++ [r])
  | _, _, _, _, .nil, h => .cons h .nil
  | _, _, _, _, .cons a t, h => .cons a (RowsAt.snoc t h)
theorem RowsAt.append {c : Cs} {H : Hp} : ∀ {ps qs : List Addr} {rs ss : List R}, RowsAt c H ps rs → RowsAt c H qs ss → RowsAt c H (ps ++ qs) (rs ++ ss)
  | _, _, _, _, .nil, h => h
  | _, _, _, _, .cons a t, h => .cons a (RowsAt.append t h)
theorem RowAt.upd {c : Cs} {H : Hp} {p D : Addr} {r : R} {xs : List V} {o : HO} (hD : H D = some (.lst xs)) (h : RowAt c H p r) : RowAt c (L2.upd H D o) p r := by
  obtain ⟨dx, e⟩ := h
  exact ⟨dx, by rw [upd_ne (ne_of e hD (by intro z; cases z))]; exact e⟩
theorem RowsAt.upd {c : Cs} {H : Hp} {ps : List Addr} {D : Addr} {rs : List R} {xs : List V} {o : HO} (hD : H D = some (.lst xs)) (h : RowsAt c H ps rs) : RowsAt c (L2.upd H D o) ps rs := Paired.mapP h fun _ _ => RowAt.upd hD
theorem same_upd {H0 H : Hp} {D : Addr} {o : HO} (s : Same H0 H) (n : H0 D = none) : Same H0 (L2.upd H D o) := fun b u e => by rw [upd_ne (ne_of_none e n)]; exact s b u e
theorem same_new {H : Hp} {D : Addr} {o : HO} (n : H D = none) : Same H (L2.upd H D o) := same_upd (Same.refl H) n
/-- a list that is being filled with rows: at D, the rows rs so far; H0 stays -/
def Fill (c : Cs) (H0 : Hp) (D : Addr) (rs : List R) (H : Hp) : Prop := ∃ ps : List Addr, H D = some (.lst (ps.map V.ref)) ∧ RowsAt c H ps rs ∧ Same H0 H
theorem Fill.nil {c : Cs} {H0 : Hp} {D : Addr} (n : H0 D = none) : Fill c H0 D [] (L2.upd H0 D (.lst [])) := ⟨[], upd_same, .nil, same_new n⟩
theorem RowsAt.len {c : Cs} {H : Hp} {ps : List Addr} {rs : List R} (h : RowsAt c H ps rs) : ps.length = rs.length := Paired.length h
/-- one more -/
theorem Fill.step {c : Cs} {H0 H H1 : Hp} {D q : Addr} {rs : List R} {r : R} (n : H0 D = none) (h : Fill c H0 D rs H) (s : Same H H1) (hq : RowAt c H1 q r) (hz : rs.length ≤ 100) :
    ∃ acc, H1 D = some (.lst acc) ∧ acc.length < sizeLine ∧ Fill c H0 D (rs ++ [r]) (L2.upd H1 D (.lst (acc ++ [V.ref q]))) := by
  obtain ⟨ps, hD, hr, s0⟩ := h
  have hD1 := s _ _ hD
  refine ⟨_, hD1, by rw [List.length_map, hr.len]; exact small1000 (by omega), ps ++ [q], ?_, ?_, same_upd (s0.trans s) n⟩
  · rw [upd_same, List.map_append]; rfl
  · exact ((hr.same s).snoc hq).upd hD1
theorem take_next {α : Type} {l : List α} {i : Nat} {x : α} (h : l[i]? = some x) : l.take (i + 1) = l.take i ++ [x] := by
  rw [List.take_add_one, h]; rfl
end
end Ow
end
section
namespace Ow
open PySem L2 Own
section
variable {P : Program} {w : World} {K : PySem.W.Frag} {mg : Str → Option Value} {base : Heap} {c : Cs} {gs ge : Addr}
/-- the classes that have an __init__, as they are made with all arguments -/
structure Makers (P : Program) (w : World) (K : PySem.W.Frag) (mg : Str → Option Value) (base : Heap) (c : Cs) (fK fT fL fS : Addr) (dK dT dL dS : FuncData) : Prop where
  mkK : Mk K c.keep fK
  gK : FnOk P w K mg base CX0 3 fK dK ["self", "what", "life"] (spKeep c)
  bK : Binds K dK ["self", "what", "life"] []
  mkT : Mk K c.tries fT
  gT : FnOk P w K mg base CX0 3 fT dT ["self", "many", "on"] (spTries c)
  bT : Binds K dT ["self", "many", "on"] []
  mkL : Mk K c.limit fL
  gL : FnOk P w K mg base CX0 3 fL dL ["self", "many"] (spLimit c)
  bL : Binds K dL ["self", "many"] []
  mkS : Mk K c.soft fS
  gS : FnOk P w K mg base CX0 3 fS dS ["self", "on"] (spSoft c)
  bS : Binds K dS ["self", "on"] []
def spEvery (c : Cs) : Sp := fun vs H Q _ => vs = [] ∧ ∀ (l : Addr) (ps : List Addr) (H' : Hp), Same H H' → H' l = some (.lst (ps.map V.ref)) → RowsAt c H' ps allRows → H l = none → Q (.ref l) H'
abbrev nEvery : List Str := ["keeps", "tries", "limits", "softs", "what", "life", "many", "on"]
theorem sc_every : FnScope nEvery [] (defScope s_every_row) := ⟨rfl, rfl, rfl, by decide +kernel, rfl, by decide +kernel, by decide +kernel⟩
def keepRows : List R := [.keep false none, .keep false (some 0), .keep false (some 1), .keep false (some 2), .keep false (some 3), .keep true none, .keep true (some 0), .keep true (some 1), .keep true (some 2), .keep true (some 3)]
def triesRows : List R := [.tries 1 false, .tries 1 true, .tries 2 false, .tries 2 true, .tries 3 false, .tries 3 true]
def limitRows : List R := [.limit 1, .limit 2, .limit 3, .limit 4, .limit 5, .limit 6]
def softRows : List R := [.soft false, .soft true]
theorem lift_row {c : Cs} {H H' : Hp} {p : Addr} {r : R} (x : RowAt c H p r) (k : Same H H') : RowAt c H' p r := x.same k
theorem made_same {H H1 : Hp} {x dx C : Addr} (nx : H x = none) (nd : H dx = none) (k : ∀ b o, (upd (upd H dx (.own x)) x (.ins C dx [])) b = some o → b ≠ x → H1 b = some o) : Same H H1 := Same.made nx nd k
theorem Fill.same {c : Cs} {H0 H H1 : Hp} {D : Addr} {rs : List R} (h : Fill c H0 D rs H) (s : Same H H1) : Fill c H0 D rs H1 := let ⟨ps, e, r, s0⟩ := h; ⟨ps, s _ _ e, r.same s, s0.trans s⟩
theorem keep_ix {i j : Nat} {x y : V} (hx : ([.str "good", .str "all"] : List V)[i]? = some x) (hy : ([.non, .int 0, .int 1, .int 2, .int 3] : List V)[j]? = some y) :
    ∃ wh l, x = .str (wS wh) ∧ y = lV l ∧ keepRows[5 * i + j]? = some (.keep wh l) ∧ (R.keep wh l).ok = true ∧ j < 5 := by
  match i, hx with
  | 0, hx =>
    cases hx
    match j, hy with
    | 0, hy => cases hy; exact ⟨false, none, rfl, rfl, rfl, rfl, by omega⟩
    | 1, hy => cases hy; exact ⟨false, some 0, rfl, rfl, rfl, rfl, by omega⟩
    | 2, hy => cases hy; exact ⟨false, some 1, rfl, rfl, rfl, rfl, by omega⟩
    | 3, hy => cases hy; exact ⟨false, some 2, rfl, rfl, rfl, rfl, by omega⟩
    | 4, hy => cases hy; exact ⟨false, some 3, rfl, rfl, rfl, rfl, by omega⟩
    | j + 5, hy => simp at hy
  | 1, hx =>
    cases hx
    match j, hy with
    | 0, hy => cases hy; exact ⟨true, none, rfl, rfl, rfl, rfl, by omega⟩
    | 1, hy => cases hy; exact ⟨true, some 0, rfl, rfl, rfl, rfl, by omega⟩
    | 2, hy => cases hy; exact ⟨true, some 1, rfl, rfl, rfl, rfl, by omega⟩
    | 3, hy => cases hy; exact ⟨true, some 2, rfl, rfl, rfl, rfl, by omega⟩
    | 4, hy => cases hy; exact ⟨true, some 3, rfl, rfl, rfl, rfl, by omega⟩
    | j + 5, hy => simp at hy
  | i + 2, hx => simp at hx
theorem tries_ix {i j : Nat} {x y : V} (hx : ([.int 1, .int 2, .int 3] : List V)[i]? = some x) (hy : ([.str "fault", .str "all"] : List V)[j]? = some y) :
    ∃ (n : Nat) (a : Bool), x = .int n ∧ y = .str (aS a) ∧ triesRows[2 * i + j]? = some (.tries n a) ∧ (R.tries n a).ok = true ∧ j < 2 := by
  match i, hx with
  | 0, hx =>
    cases hx
    match j, hy with
    | 0, hy => cases hy; exact ⟨1, false, rfl, rfl, rfl, rfl, by omega⟩
    | 1, hy => cases hy; exact ⟨1, true, rfl, rfl, rfl, rfl, by omega⟩
    | j + 2, hy => simp at hy
  | 1, hx =>
    cases hx
    match j, hy with
    | 0, hy => cases hy; exact ⟨2, false, rfl, rfl, rfl, rfl, by omega⟩
    | 1, hy => cases hy; exact ⟨2, true, rfl, rfl, rfl, rfl, by omega⟩
    | j + 2, hy => simp at hy
  | 2, hx =>
    cases hx
    match j, hy with
    | 0, hy => cases hy; exact ⟨3, false, rfl, rfl, rfl, rfl, by omega⟩
    | 1, hy => cases hy; exact ⟨3, true, rfl, rfl, rfl, rfl, by omega⟩
    | j + 2, hy => simp at hy
  | i + 3, hx => simp at hx
theorem limit_ix {i : Nat} {x : V} (hx : ([.int 1, .int 2, .int 3, .int 4, .int 5, .int 6] : List V)[i]? = some x) : ∃ n : Nat, x = .int n ∧ limitRows[i]? = some (.limit n) ∧ (R.limit n).ok = true := by
  match i, hx with
  | 0, hx => cases hx; exact ⟨1, rfl, rfl, rfl⟩
  | 1, hx => cases hx; exact ⟨2, rfl, rfl, rfl⟩
  | 2, hx => cases hx; exact ⟨3, rfl, rfl, rfl⟩
  | 3, hx => cases hx; exact ⟨4, rfl, rfl, rfl⟩
  | 4, hx => cases hx; exact ⟨5, rfl, rfl, rfl⟩
  | 5, hx => cases hx; exact ⟨6, rfl, rfl, rfl⟩
  | i + 6, hx => simp at hx
theorem soft_ix {i : Nat} {x : V} (hx : ([.str "fault", .str "all"] : List V)[i]? = some x) : ∃ a : Bool, x = .str (aS a) ∧ softRows[i]? = some (.soft a) := by
  match i, hx with
  | 0, hx => cases hx; exact ⟨false, rfl, rfl⟩
  | 1, hx => cases hx; exact ⟨true, rfl, rfl⟩
  | i + 2, hx => simp at hx
theorem ok_every {f fK fT fL fS : Addr} {fd dK dT dL dS : FuncData} (F : Fun K "every_row" "every_row" s_every_row f fd) (T : Txt' K mg c gs ge) (M : Makers P w K mg base c fK fT fL fS dK dT dL dS) : FnOk P w K mg base CX0 5 f fd [] (spEvery c) := by
  refine F.ok sc_every (fun vs H Q E h => ?_) (fun cdv A outer s H vs Q E hr h => ?_)
  · obtain ⟨rfl, _⟩ := h
    rfl
  · obtain ⟨rfl, k⟩ := h
    obtain ⟨aA, mA, kA⟩ := T.cKept
    obtain ⟨aL, mL, kL⟩ := T.cLives
    obtain ⟨aM, mM, kM⟩ := T.cAsked
    obtain ⟨aT, mT, kT⟩ := T.cTries
    obtain ⟨aF, mF, kF⟩ := T.cFaults
    refine ⟨_, pss_cons (ps_setLc2 (i := 0) (own := [("what", 4), ("life", 5)]) (vs1 := [5]) (g := gName 4) (g1 := gName 5) (wi1 := iTup K (tTup (tCons (tC .non) (StX.tStar K (tC (.ref aL)) tNil)))) (tt := tYes) (tt1 := tYes) rfl sc_every.nd rfl rfl (sw_true rfl rfl rfl (by decide +kernel)) (pi_tup (pe_glob (v := .ref aA) (by rfl) mA rfl))
        (blkOk_by (N := nEvery) (sc := defScope s_every_row) (by decide +kernel)) (by decide) (fun _ _ _ _ _ => pg_name (i := 4) sc_every.nd rfl (Or.inl rfl)) (fun _ _ _ _ _ => pts_nil)
        (fun _ _ _ _ _ => pi_tup (pe_tup (pa_cons pe_non (StX.pa_star (pe_glob (v := .ref aL) (by rfl) mL rfl) pa_nil)))) (fun _ _ _ _ _ => pg_name (i := 5) sc_every.nd rfl (Or.inl rfl)) (fun _ _ _ _ _ => pts_nil)
        (fun _ _ _ _ _ => pe_make M.mkK M.gK hr (by rfl) T.mKeep M.bK .nil pass0 (pa_cons (pv 4) (pa_cons (pv 5) pa_nil))))
      (pss_cons (ps_setLc2 (i := 1) (own := [("many", 6), ("on", 7)]) (vs1 := [7]) (g := gName 6) (g1 := gName 7) (wi1 := iTup K (tC (.ref aF))) (tt := tYes) (tt1 := tYes) rfl sc_every.nd rfl rfl (sw_true rfl rfl rfl (by decide +kernel)) (pi_tup (pe_glob (v := .ref aM) (by rfl) mM rfl))
        (blkOk_by (N := nEvery) (sc := defScope s_every_row) (by decide +kernel)) (by decide) (fun _ _ _ _ _ => pg_name (i := 6) sc_every.nd rfl (Or.inl rfl)) (fun _ _ _ _ _ => pts_nil)
        (fun _ _ _ _ _ => pi_tup (pe_glob (v := .ref aF) (by rfl) mF rfl)) (fun _ _ _ _ _ => pg_name (i := 7) sc_every.nd rfl (Or.inl rfl)) (fun _ _ _ _ _ => pts_nil)
        (fun _ _ _ _ _ => pe_make M.mkT M.gT hr (by rfl) T.mTries M.bT .nil pass0 (pa_cons (pv 6) (pa_cons (pv 7) pa_nil))))
      (pss_cons (ps_setLc (i := 2) (own := [("many", 6)]) (g := gName 6) (tt := tYes) rfl sc_every.nd rfl rfl (sw_true rfl rfl rfl (by decide +kernel)) (pi_tup (pe_glob (v := .ref aT) (by rfl) mT rfl))
        (blkOk_by (N := nEvery) (sc := defScope s_every_row) (by decide +kernel)) (fun _ _ _ _ _ => pg_name (i := 6) sc_every.nd rfl (Or.inl rfl)) (fun _ _ _ _ _ => pts_nil)
        (fun _ _ _ _ _ => pe_make M.mkL M.gL hr (by rfl) T.mLimit M.bL .nil pass0 (pa_cons (pv 6) pa_nil)))
      (pss_cons (ps_setLc (i := 3) (own := [("on", 7)]) (g := gName 7) (tt := tYes) rfl sc_every.nd rfl rfl (sw_true rfl rfl rfl (by decide +kernel)) (pi_tup (pe_glob (v := .ref aF) (by rfl) mF rfl))
        (blkOk_by (N := nEvery) (sc := defScope s_every_row) (by decide +kernel)) (fun _ _ _ _ _ => pg_name (i := 7) sc_every.nd rfl (Or.inl rfl)) (fun _ _ _ _ _ => pts_nil)
        (fun _ _ _ _ _ => pe_make M.mkS M.gS hr (by rfl) T.mSoft M.bS .nil pass0 (pa_cons (pv 7) pa_nil)))
      (pss_one (ps_ret (pe_lst (StX.pa_star (pv 0) (StX.pa_star (pv 1) (StX.pa_star (pv 2) (StX.pa_star (pv 3) (pa_cons (pe_makeO T.oLeave (by rfl) T.mLeave) (pa_cons (pe_makeO T.oCount (by rfl) T.mCount) (pa_cons (pe_makeO T.oLend (by rfl) T.mLend) pa_nil)))))))))))))
      , ?_⟩
    refine ⟨aA, rfl, ⟨_, kA H⟩, fun D1 n1 => ?_⟩
    refine walk_tt (K := K) (a := aA) (xs := [.str "good", .str "all"]) (fun i H2 => Fill c H D1 (keepRows.take (5 * i)) H2) (Fill.nil n1) (fun i H2 _ _ => kA H2) (fun i x H2 hx F2 => ?_) (fun H2 F2 => ?_)
    · -- a turn of the outer for: the inner one
      refine ⟨by rfl, aL, _, rfl, .inl (kL H2), by show 5 ≤ sizeLine; decide, fun t ht => ⟨t, rfl, ⟨_, SqT.of upd_same⟩, ?_⟩⟩
      refine walk_tt (K := K) (a := t) (xs := [.non, .int 0, .int 1, .int 2, .int 3]) (fun j H3 => Fill c H D1 (keepRows.take (5 * i + j)) H3 ∧ H3 t = some (.tup [.non, .int 0, .int 1, .int 2, .int 3])) ⟨F2.same (same_new ht), upd_same⟩ (fun j H3 _ z => SqT.of z.2) (fun j y H3 hy F3 => ?_) (fun H3 F3 => ?_)
      · obtain ⟨wh, l, rfl, rfl, hk, hok, hj⟩ := keep_ix hx hy
        refine ⟨by rfl, _, rfl, _, rfl, fun q dq nq ndq neq => ⟨q, dq, wh, l, rfl, hok, upd_same, fun H4 r4 k4 => ⟨rfl, ?_⟩⟩⟩
        have s4 := made_same nq ndq k4
        obtain ⟨acc, e1, e2, e3⟩ := F3.1.step n1 s4 r4 (by rw [List.length_take]; show min _ 10 ≤ 100; omega)
        refine ⟨acc, e1, e2, ?_, ?_⟩
        · rw [← Nat.add_assoc, take_next hk]
          exact e3
        · rw [upd_ne (ne_of (s4 _ _ F3.2) e1 (by intro z; cases z))]
          exact s4 _ _ F3.2
      · exact F3.1
    · -- keeps is made
      obtain ⟨ps1, L1, r1, s1⟩ := F2
      refine ⟨aM, rfl, ⟨_, kM H2⟩, fun D2 n2 => ?_⟩
      refine walk_tt (K := K) (a := aM) (xs := [.int 1, .int 2, .int 3]) (fun i H3 => Fill c H2 D2 (triesRows.take (2 * i)) H3) (Fill.nil n2) (fun i H3 _ _ => kM H3) (fun i x H3 hx F3 => ?_) (fun H3 F3 => ?_)
      · refine ⟨by rfl, aF, rfl, ⟨_, kF H3⟩, ?_⟩
        refine walk_tt (K := K) (a := aF) (xs := [.str "fault", .str "all"]) (fun j H4 => Fill c H2 D2 (triesRows.take (2 * i + j)) H4) F3 (fun j H4 _ _ => kF H4) (fun j y H4 hy F4 => ?_) (fun H4 F4 => F4)
        obtain ⟨n, a, rfl, rfl, hk, hok, hj⟩ := tries_ix hx hy
        refine ⟨by rfl, _, rfl, _, rfl, fun q dq nq ndq neq => ⟨q, dq, n, a, rfl, hok, upd_same, fun H5 r5 k5 => ⟨rfl, ?_⟩⟩⟩
        obtain ⟨acc, e1, e2, e3⟩ := F4.step n2 (made_same nq ndq k5) r5 (by rw [List.length_take]; show min _ 6 ≤ 100; omega)
        refine ⟨acc, e1, e2, ?_⟩
        rw [← Nat.add_assoc, take_next hk]
        exact e3
      · obtain ⟨ps2, L2, r2, s2⟩ := F3
        refine ⟨aT, rfl, ⟨_, kT H3⟩, fun D3 n3 => ?_⟩
        refine walk_tt (K := K) (a := aT) (xs := [.int 1, .int 2, .int 3, .int 4, .int 5, .int 6]) (fun i H4 => Fill c H3 D3 (limitRows.take i) H4) (Fill.nil n3) (fun i H4 _ _ => kT H4) (fun i x H4 hx F4 => ?_) (fun H4 F4 => ?_)
        · obtain ⟨n, rfl, hk, hok⟩ := limit_ix hx
          refine ⟨by rfl, _, rfl, fun q dq nq ndq neq => ⟨q, dq, n, rfl, hok, upd_same, fun H5 r5 k5 => ⟨rfl, ?_⟩⟩⟩
          obtain ⟨acc, e1, e2, e3⟩ := F4.step n3 (made_same nq ndq k5) r5 (by rw [List.length_take]; show min _ 6 ≤ 100; omega)
          refine ⟨acc, e1, e2, ?_⟩
          rw [take_next hk]
          exact e3
        · obtain ⟨ps3, L3, r3, s3⟩ := F4
          refine ⟨aF, rfl, ⟨_, kF H4⟩, fun D4 n4 => ?_⟩
          refine walk_tt (K := K) (a := aF) (xs := [.str "fault", .str "all"]) (fun i H5 => Fill c H4 D4 (softRows.take i) H5) (Fill.nil n4) (fun i H5 _ _ => kF H5) (fun i x H5 hx F5 => ?_) (fun H5 F5 => ?_)
          · obtain ⟨a, rfl, hk⟩ := soft_ix hx
            refine ⟨by rfl, _, rfl, fun q dq nq ndq neq => ⟨q, dq, a, rfl, upd_same, fun H6 r6 k6 => ⟨rfl, ?_⟩⟩⟩
            obtain ⟨acc, e1, e2, e3⟩ := F5.step n4 (made_same nq ndq k6) r6 (by rw [List.length_take]; show min _ 2 ≤ 100; omega)
            refine ⟨acc, e1, e2, ?_⟩
            rw [take_next hk]
            exact e3
          · obtain ⟨ps4, L4, r4, s4⟩ := F5
            have t4 : Same H3 H5 := s3.trans s4
            have t3 : Same H2 H5 := s2.trans t4
            have t2 : Same H H5 := s1.trans t3
            refine ⟨_, rfl, D1, _, rfl, .inr (SqL.of (t3 _ _ L1)), _, rfl, D2, _, rfl, .inr (SqL.of (t4 _ _ L2)), _, rfl, D3, _, rfl, .inr (SqL.of (s4 _ _ L3)), _, rfl, D4, _, rfl, .inr (SqL.of L4), ?_⟩
            intro x1 d1 nx1 nd1 ne1
            intro x2 d2 nx2 nd2 ne2
            intro x3 d3 nx3 nd3 ne3
            have u1 : Same H5 (upd (upd H5 d1 (.own x1)) x1 (.ins c.leave d1 [])) := same_upd (same_new nd1) nx1
            have u2 := same_upd (same_new (H := upd (upd H5 d1 (.own x1)) x1 (.ins c.leave d1 [])) (o := .own x2) nd2) (o := .ins c.count d2 []) nx2
            have u3 := same_upd (same_new (H := upd (upd (upd (upd H5 d1 (.own x1)) x1 (.ins c.leave d1 [])) d2 (.own x2)) x2 (.ins c.count d2 [])) (o := .own x3) nd3) (o := .ins c.lend d3 []) nx3
            have u : Same H5 _ := (u1.trans u2).trans u3
            have a1 : RowAt c _ x1 .leave := lift_row (H := upd (upd H5 d1 (.own x1)) x1 (.ins c.leave d1 [])) ⟨d1, upd_same⟩ (u2.trans u3)
            have a2 : RowAt c _ x2 .count := lift_row (H := upd (upd (upd (upd H5 d1 (.own x1)) x1 (.ins c.leave d1 [])) d2 (.own x2)) x2 (.ins c.count d2 [])) ⟨d2, upd_same⟩ u3
            have a3 : RowAt c (upd (upd (upd (upd (upd (upd H5 d1 (.own x1)) x1 (.ins c.leave d1 [])) d2 (.own x2)) x2 (.ins c.count d2 [])) d3 (.own x3)) x3 (.ins c.lend d3 [])) x3 .lend := ⟨d3, upd_same⟩
            have rr := (((r1.same (t3.trans u)).append (r2.same (t4.trans u))).append (r3.same (s4.trans u))).append (r4.same u)
            have r7 := ((rr.snoc a1).snoc a2).snoc a3
            have hl := r7.len
            refine ⟨?_, fun l hl7 => ?_⟩
            · have q1 : ps1.length ≤ 10 := by rw [r1.len]; exact List.length_take_le' _ _
              have q2 : ps2.length ≤ 6 := by rw [r2.len]; exact List.length_take_le' _ _
              have q3 : ps3.length ≤ 6 := by rw [r3.len]; exact List.length_take_le' _ _
              have q4 : ps4.length ≤ 2 := by rw [r4.len]; exact List.length_take_le' _ _
              refine small_len ?_
              simp only [List.length_append, List.length_map, List.length_cons, List.length_nil]
              omega
            · refine k l (((((((ps1 ++ ps2) ++ ps3) ++ ps4) ++ [x1]) ++ [x2]) ++ [x3])) _ (same_upd (t2.trans u) (Same.free (t2.trans u) hl7)) ?_ ?_ (Same.free (t2.trans u) hl7)
              · rw [upd_same]
                simp
              · exact RowsAt.same (same_new hl7) r7

/-! ### Row.read -/
def spRead (c : Cs) : Sp := fun vs H Q _ => ∃ (cl : V) (r : R), vs = [cl, .str r.text] ∧ r.ok = true ∧ ∀ (p : Addr) (H' : Hp), Same H H' → RowAt c H' p r → Q (.ref p) H'
theorem pair_get {α β : Type} {F : α → β → Prop} : ∀ {xs : List α} {ys : List β} {i : Nat} {x : α}, Paired F xs ys → xs[i]? = some x → ∃ y, ys[i]? = some y ∧ F x y
  | _, _, _, _, .nil, e => by simp at e
  | _, _, 0, _, .cons r _, e => by simp at e; subst e; exact ⟨_, rfl, r⟩
  | _, _, i + 1, x, .cons _ t, e => by
    obtain ⟨y, h1, h2⟩ := pair_get (i := i) (x := x) t (by simpa using e)
    exact ⟨y, by simpa using h1, h2⟩
abbrev nRead : List Str := ["cls", "text", "row"]
theorem sc_read : FnScope nRead ["cls", "text"] (defScope s_Row_read) := ⟨rfl, rfl, rfl, by decide +kernel, rfl, by decide +kernel, by decide +kernel⟩
theorem ok_read {f fE : Addr} {fd dE ds : FuncData} (F : Fun K "read" "Row.read" s_Row_read f fd) (T : Txt' K mg c gs ge) (GE : FnOk P w K mg base CX0 5 fE dE [] (spEvery c)) (bE : Binds K dE [] []) (mE : mg "every_row" = some (.ref fE)) (kE : PySem.W.keepIn K (.ref fE) = true)
    (GS : FnOk P w K mg base CX0 2 gs ds ["self"] (spStr c)) (bS : Binds K ds ["self"] []) : FnOk P w K mg base CX0 6 f fd ["cls", "text"] (spRead c) := by
  have RS := GS.raw bS .nil
  refine F.ok sc_read (fun vs H Q E h => ?_) (fun cdv A outer s H vs Q E hr h => ?_)
  · obtain ⟨cl, r, rfl, _⟩ := h
    rfl
  · obtain ⟨cl, r, rfl, hok, k⟩ := h
    refine ⟨_, pss_cons (ps_for PassesOwn.never rfl (pi_list (pe_call0 GE hr (by rfl) mE kE bE .nil pass0)) (pg_name (i := 2) sc_read.nd rfl (Or.inl rfl))
        (pss_one (ps_if (pt_cmpR op_eq (pe_callTy (call_strOwn RS (hr.mono (by decide)) pass0) (by rfl) T.str (by decide +kernel) (pa_cons (pv 2) pa_nil)) (pv 1) (nomark _)) (pss_one (ps_ret (pv 2))) pss_nil)))
      pss_never, ?_⟩
    refine ⟨rfl, fun l ps H1 s1 hl rr nl => ⟨l, rfl, ⟨_, SqL.of hl⟩, ?_⟩⟩
    obtain ⟨j, hj⟩ : ∃ j, allRows[j]? = some r := List.getElem?_of_mem (mem_all hok)
    have hj27 : j < 27 := (List.getElem?_eq_some_iff.mp hj).1
    refine for_list (K := K) (a := l) (xs := ps.map V.ref) (fun i σ H2 => i ≤ j ∧ ∃ v, σ = [some cl, some (.str r.text), v] ∧ Same H1 H2) ⟨Nat.zero_le _, none, rfl, Same.refl _⟩ (fun i σ H2 _ ⟨_, _, _, s2⟩ => s2.seq (SqL.of hl)) ?_ ?_
    · rintro i y σ H2 hi ⟨hij, v, rfl, s2⟩
      rw [List.getElem?_map] at hi
      obtain ⟨p, hp, rfl⟩ : ∃ p, ps[i]? = some p ∧ y = V.ref p := by
        cases e : ps[i]? with
        | none => rw [e] at hi; cases hi
        | some p => rw [e] at hi; exact ⟨p, rfl, (Option.some.inj hi).symm⟩
      obtain ⟨s, hs, ⟨dx, hx⟩⟩ := pair_get rr hp
      have sok : s.ok = true := all_ok s (List.mem_of_getElem? hs)
      have hx2 := s2 _ _ hx
      refine ⟨_, rfl, p, c.of s, dx, _, ge, rfl, hx2, T.own s, p, s, rfl, sok, ⟨dx, hx2⟩, fun H3 s3 => ⟨_, rfl, _, rfl, rfl, _, rfl, ?_⟩⟩
      by_cases e : s = r
      · subst e
        have e1 : decide (V.str s.text = V.str s.text) = true := decide_eq_true rfl
        rw [e1]
        refine iteT ?_
        exact ⟨_, rfl, k p H3 ((s1.trans s2).trans s3) ⟨dx, s3 _ _ hx2⟩⟩
      · have e1 : decide (V.str s.text = V.str r.text) = false := by rw [text_eq sok hok]; exact decide_eq_false e
        rw [e1]
        refine iteF ?_
        have hne : i ≠ j := fun z => e (Option.some.inj ((by rw [← hs, z, hj] : some s = some r)))
        exact ⟨by omega, _, rfl, s2.trans s3⟩
    · rintro σ H2 ⟨hij, _⟩
      have hlen : ps.length = 27 := rr.len
      rw [List.length_map, hlen] at hij
      exact absurd hj27 (by omega)
end
end Ow
end
section
namespace Ow
open PySem L2 Own
/-! ### the law's draws -/
section
variable {P : Program} {w : World} {K : PySem.W.Frag} {mg : Str → Option Value} {base : Heap} {c : Cs} {gs ge : Addr}
def dl (g : Addr) (m : Int) : List (Key × V) := [(.inr "great", .ref g), (.inr "mixed", .int m)]
/-- a deal: its dict at d, its great numbers' list at g -/
def DealIs (d g : Addr) (H : Hp) (m : Int) (ns : List Int) : Prop := H d = some (.dK (dl g m)) ∧ H g = some (.lst (ns.map V.int)) ∧ (0 ≤ m ∧ m < 2147483647) ∧ (∀ n ∈ ns, 0 ≤ n) ∧ ns.length ≤ 63
def Deal (d g : Addr) (H : Hp) : Prop := ∃ m ns, DealIs d g H m ns
/-- all but the deal is as it was -/
def Kp (d g : Addr) (H H' : Hp) : Prop := ∀ b o, H b = some o → b ≠ d → b ≠ g → H' b = some o
theorem Kp.refl {d g : Addr} (H : Hp) : Kp d g H H := fun _ _ e _ _ => e
theorem Kp.trans {d g : Addr} {H H1 H2 : Hp} (a : Kp d g H H1) (b : Kp d g H1 H2) : Kp d g H H2 := fun x o e h1 h2 => b x o (a x o e h1 h2) h1 h2
theorem Kp.of {d g : Addr} {H H' : Hp} (s : Same H H') : Kp d g H H' := fun b o e _ _ => s b o e
theorem Deal.same {d g : Addr} {H H' : Hp} (s : Same H H') (h' : Deal d g H) : Deal d g H' := let ⟨m, ns, a, b, r⟩ := h'; ⟨m, ns, s _ _ a, s _ _ b, r⟩
theorem DealIs.same {d g : Addr} {H H' : Hp} {m : Int} {ns : List Int} (s : Same H H') (h : DealIs d g H m ns) : DealIs d g H' m ns := let ⟨a, b, r⟩ := h; ⟨s _ _ a, s _ _ b, r⟩
theorem Deal.free {d g : Addr} {H H' : Hp} (h : Deal d g H) (h' : Deal d g H') (k : Kp d g H H') {l : Addr} (e : H' l = none) : H l = none := by
  cases q : H l with
  | none => rfl
  | some o =>
    by_cases h1 : l = d
    · obtain ⟨_, _, z, _⟩ := h'
      rw [← h1, e] at z; cases z
    · by_cases h2 : l = g
      · obtain ⟨_, _, _, z, _⟩ := h'
        rw [← h2, e] at z; cases z
      · rw [k l o q h1 h2] at e; cases e
theorem Deal.ne {d g : Addr} {H : Hp} (h : Deal d g H) : d ≠ g := by
  obtain ⟨_, _, a, b, _⟩ := h
  exact ne_of a b (by intro z; cases z)
theorem kGM : ¬ (("great" : Str) = "mixed") := by decide +kernel
theorem dl_great (g : Addr) (m : Int) : valV (dl g m) (.inr "great") = some (.ref g) := valV_pos rfl
theorem dl_mixed (g : Addr) (m : Int) : valV (dl g m) (.inr "mixed") = some (.int m) := by
  unfold dl
  rw [valV_neg (by intro z; exact kGM (Sum.inr.inj z))]
  exact valV_pos rfl
theorem dl_put (g : Addr) (m y : Int) : putK (dl g m) (.inr "mixed") (.int y) = dl g y := by
  have h1 : ¬ ((Sum.inr ("great" : Str) : Key) = Sum.inr ("mixed" : Str)) := by intro z; exact kGM (Sum.inr.inj z)
  unfold putK dl
  simp [h1]
def spDraw : Sp := fun vs H Q _ => ∃ (d g : Addr) (wd : Int), vs = [.ref d, .int wd] ∧ 0 < wd ∧ wd < 1073741824 ∧ Deal d g H ∧ ∀ (v : Int) (H' : Hp), 0 ≤ v → v < wd → Deal d g H' → Kp d g H H' → Q (.int v) H'
/-- the built-ins' names are free -/
structure Bn (mg : Str → Option Value) : Prop where
  int_ : mg "int" = none
  abs_ : mg "abs" = none
  len_ : mg "len" = none
  range_ : mg "range" = none
  list_ : mg "list" = none
  str_ : mg "str" = none
abbrev nDraw : List Str := ["_law_deal", "_law_wide", "_law_great", "_law_cell"]
theorem sc_draw : FnScope nDraw ["_law_deal", "_law_wide"] (defScope s_law_draw) := ⟨rfl, rfl, rfl, by decide +kernel, rfl, by decide +kernel, by decide +kernel⟩
theorem dp_ints {H : Hp} {l : Addr} {ns : List Int} (h : H l = some (.lst (ns.map V.int))) : Dp K H (.ref l) (.list (ns.map PyData.int)) := by
  refine .lst (SqL.of h) ?_
  clear h
  induction ns with
  | nil => exact .nil
  | cons n r ih => exact .cons (.int n) ih
theorem sh_ints : ∀ ns : List Int, SeqAt.shaped (.list (ns.map PyData.int)) = true := by
  intro ns
  have h1 : PyData.canLayAll0 (ns.map PyData.int) = true := by
    induction ns with
    | nil => rfl
    | cons n r ih => rw [List.map_cons, PyData.canLayAll0, ih]; rfl
  have h2 : PyData.depthAll (ns.map PyData.int) = 0 := by
    induction ns with
    | nil => rfl
    | cons n r ih =>
      rw [List.map_cons, PyData.depthAll, ih (by rw [List.map_cons, PyData.canLayAll0] at h1; exact (Bool.and_eq_true_iff.mp h1).2)]; rfl
  unfold SeqAt.shaped
  rw [PyData.canLay0, h1, PyData.depth, h2]
  rfl
theorem eqv_nil (ns : List Int) : PyData.eqv (.list (ns.map PyData.int)) (.list []) = decide (ns = []) := by
  cases ns with
  | nil => rfl
  | cons n r => rfl
theorem sh_nil : SeqAt.shaped (.list []) = true := sh_ints []
theorem ok_draw {f : Addr} {fd : FuncData} (F : Fun K "_law_draw" "_law_draw" s_law_draw f fd) (B : Bn mg) : FnOk P w K mg base CX0 1 f fd ["_law_deal", "_law_wide"] spDraw := by
  refine F.ok sc_draw (fun vs H Q E h => ?_) (fun cdv A outer s H vs Q E hr h => ?_)
  · obtain ⟨d, g, wd, rfl, _⟩ := h
    rfl
  · obtain ⟨d, g, wd, rfl, hw0, hw1, ⟨m, ns, D⟩, k⟩ := h
    have hu := hu_of hr
    refine ⟨_, pss_cons (ps_set (i := 2) sc_draw.nd rfl (Or.inl rfl) (pe_dget hu (pv 0) pe_str (fun _ _ => rfl)))
      (C8.pss_cut (ps_while PassesOwn.never (PW.pt (pw_and (pt_cmpR (op_neD hr.units) (pv 2) (pe_lst pa_nil) (nomark _)) (pw_and1 (pt_cmpR op_eq (pe_ix ix_list (pv 2) (pe_un un_neg pe_int) (fun _ _ => rfl)) pe_int (nomark _)))))
        (pss_one (ps_expr (pe_bm0 PySem.F.plainAttrs_list PySem.F.slot_list_pop PySem.F.type_list_pop mt_pop (pv 2)))))
      (pss_cons (ps_if (pt_cmpR (op_neD hr.units) (pv 2) (pe_lst pa_nil) (nomark _))
        (pss_cons (ps_set (i := 3) sc_draw.nd rfl (Or.inl rfl) (pe_bm0 PySem.F.plainAttrs_list PySem.F.slot_list_pop PySem.F.type_list_pop mt_pop (pv 2)))
          (pss_cons (ps_expr (pe_bm PySem.F.plainAttrs_list PySem.F.slot_list_append PySem.F.type_list_append mt_append (pv 2) (pa_cons (pe_op op_fdiv (pv 3) (pv 1)) pa_nil)))
          (pss_one (ps_ret (pe_op op_mod (pe_callTy call_int1 (by rfl) B.int_ (by decide +kernel) (pa_cons (pv 3) pa_nil)) (pv 1))))))
        pss_nil)
      (pss_cons (ps_dput hu (pv 0) pe_str (pe_op op_mod (pe_callTy call_int1 (by rfl) B.int_ (by decide +kernel) (pa_cons (pe_op op_add (pe_op op_mul (pe_dget hu (pv 0) pe_str (fun _ _ => rfl)) pe_int) pe_int) pa_nil)) pe_int) rfl)
      (pss_one (ps_ret (pe_op op_mod (pe_callTy call_int1 (by rfl) B.int_ (by decide +kernel) (pa_cons (pe_op op_fdiv (pe_dget hu (pv 0) pe_str (fun _ _ => rfl)) pe_int) pa_nil)) (pv 1))))))), ?_⟩
    obtain ⟨h1, h2, hm, hn, hl⟩ := id D
    refine ⟨_, rfl, d, _, rfl, by rw [← dl_great g m]; exact DGet.k (k := Sum.inr "great") h1, ?_⟩
    -- the while: the zeros at the end go
    refine ⟨fun σ H2 => σ = [some (.ref d), some (.int wd), some (.ref g), none] ∧ (∃ ns2, DealIs d g H2 m ns2) ∧ Kp d g H H2,
      ⟨fun z σ H2 => ∃ ns2 : List Int, z = ns2.length ∧ σ = [some (.ref d), some (.int wd), some (.ref g), none] ∧ DealIs d g H2 m ns2 ∧ Kp d g H H2, ⟨ns.length, ns, rfl, rfl, D, Kp.refl H⟩, ?_⟩, ?_⟩
    · rintro z σ H2 ⟨ns2, rfl, rfl, D2, k2⟩
      obtain ⟨a1, a2, a3, a4, a5⟩ := id D2
      refine ⟨_, rfl, by show 0 ≤ sizeLine; decide, fun e he => ?_⟩
      have se := same_new (o := .lst []) he
      have a2' := se _ _ a2
      refine ⟨_, _, dp_ints a2', .lst (SqL.of upd_same) .nil, sh_ints ns2, sh_nil, _, rfl, ?_⟩
      rw [eqv_nil]
      have D2' := D2.same se
      have k2' := k2.trans (Kp.of se)
      rcases List.eq_nil_or_concat ns2 with rfl | ⟨l, y, ey⟩
      · refine iteF ?_
        refine iteF ?_
        exact ⟨rfl, ⟨_, D2'⟩, k2'⟩
      · rw [List.concat_eq_append] at ey
        subst ey
        have e1 : decide (l ++ [y] = []) = false := decide_eq_false (by simp)
        rw [e1]
        refine iteT ?_
        have ea : (l ++ [y]).map V.int = l.map V.int ++ [V.int y] := by rw [List.map_append]; rfl
        refine ⟨_, rfl, _, rfl, g, (l ++ [y]).map V.int, -1, .int y, rfl, rfl, SqL.of a2', by rw [ea]; exact atI_last _ _, rfl, _, rfl, ?_⟩
        by_cases e0 : y = 0
        · have e2 : decide (V.int y = V.int 0) = true := decide_eq_true (by rw [e0])
          rw [e2]
          refine iteT ⟨fun σ' H' => σ' = [some (.ref d), some (.int wd), some (.ref g), none] ∧ DealIs d g H' m l ∧ Kp d g H H', ?_, ?_⟩
          · rintro σ' H' ⟨rfl, D3, k3⟩
            exact ⟨l.length, by simp, l, rfl, rfl, D3, k3⟩
          · refine ⟨_, rfl, .inl ⟨rfl, _, SqL.of a2'⟩, g, _, .int y, rfl, rfl, a2', by rw [ea]; simp, rfl, ⟨?_, ?_, a3, fun n hn => a4 n (List.mem_append_left _ hn), ?_⟩, ?_⟩
            · rw [upd_ne (ne_of (se _ _ a1) a2' (by intro z; cases z))]
              exact se _ _ a1
            · rw [upd_same, ea, List.dropLast_concat]
            · rw [List.length_append] at a5; omega
            · exact k2'.trans fun b o eb _ hg => by rw [upd_ne hg]; exact eb
        · have e2 : decide (V.int y = V.int 0) = false := decide_eq_false (fun z => e0 (V.int.inj z))
          rw [e2]
          refine iteF ?_
          exact ⟨rfl, ⟨_, D2'⟩, k2'⟩
    · rintro σ H2 ⟨rfl, ⟨ns2, D2⟩, k2⟩
      obtain ⟨a1, a2, a3, a4, a5⟩ := id D2
      refine ⟨_, rfl, by show 0 ≤ sizeLine; decide, fun e he => ?_⟩
      have se := same_new (o := .lst []) he
      have a1' := se _ _ a1
      have a2' := se _ _ a2
      have D2' := D2.same se
      have k2' := k2.trans (Kp.of se)
      refine ⟨_, _, dp_ints a2', .lst (SqL.of upd_same) .nil, sh_ints ns2, sh_nil, _, rfl, ?_⟩
      rw [eqv_nil]
      rcases List.eq_nil_or_concat ns2 with rfl | ⟨l, y, ey⟩
      · refine iteF ?_
        -- the mixed number
        have gm : ∀ {H3 : Hp} {y : Int}, H3 d = some (.dK (dl g y)) → DGet H3 d (.str "mixed") (some (.int y)) := fun {H3 y} e3 => by rw [← dl_mixed g y]; exact DGet.k (k := Sum.inr "mixed") e3
        have hp := DPut.k (k := (Sum.inr ("mixed" : Str) : Key)) (v := .int ((m * 30671 + 59) % 2147483647)) a1' (by show 2 < sizeLine; decide)
        rw [dl_put] at hp
        refine ⟨_, rfl, d, _, rfl, gm a1', _, _, rfl, rfl, .inl ⟨by omega, by omega⟩, _, _, rfl, rfl, .inl ⟨_, rfl, _, _, rfl, rfl, by show (0 : Int) < 2147483647; decide, _, rfl, d, _, rfl, hp, ?_⟩⟩
        refine ⟨_, rfl, d, _, rfl, gm upd_same, _, _, rfl, rfl, ⟨by decide, by decide⟩, .inl ⟨_, rfl, _, rfl, _, _, rfl, rfl, hw0, ?_⟩⟩
        have p1 : 0 ≤ (m * 30671 + 59) % 2147483647 := Int.emod_nonneg _ (by decide)
        have p2 : (m * 30671 + 59) % 2147483647 < 2147483647 := Int.emod_lt_of_pos _ (by decide)
        refine k _ _ (Int.emod_nonneg _ (by omega)) (Int.emod_lt_of_pos _ hw0) ⟨_, [], upd_same, ?_, ⟨p1, p2⟩, a4, a5⟩ (k2'.trans fun b o eb hd _ => by rw [upd_ne hd]; exact eb)
        rw [upd_ne (ne_of a2' a1' (by intro z; cases z))]
        exact a2'
      · rw [List.concat_eq_append] at ey
        subst ey
        have e1 : decide (l ++ [y] = []) = false := decide_eq_false (by simp)
        rw [e1]
        refine iteT ?_
        have ea : (l ++ [y]).map V.int = l.map V.int ++ [V.int y] := by rw [List.map_append]; rfl
        have hy : 0 ≤ y := a4 y (by simp)
        have ndg : d ≠ g := ne_of a1' a2' (by intro z; cases z)
        refine ⟨_, rfl, .inl ⟨rfl, _, SqL.of a2'⟩, g, _, .int y, rfl, rfl, a2', by rw [ea]; simp, ?_⟩
        have l5 : l.length ≤ 62 := by rw [List.length_append] at a5; have : [y].length = 1 := rfl; omega
        have el : (List.map V.int (l ++ [y])).dropLast = l.map V.int := by rw [ea, List.dropLast_concat]
        refine ⟨_, rfl, .inl ⟨rfl, _, SqL.of upd_same⟩, _, rfl, _, rfl, _, _, rfl, rfl, ⟨hw0, hw1⟩, g, _, .int (y / wd), rfl, rfl, upd_same, by rw [el, List.length_map]; exact small1000 (by omega), ?_⟩
        refine ⟨_, rfl, .inl ⟨_, rfl, _, rfl, _, _, rfl, rfl, hw0, ?_⟩⟩
        refine k _ _ (Int.emod_nonneg _ (by omega)) (Int.emod_lt_of_pos _ hw0) ⟨m, l ++ [y / wd], ?_, ?_, a3, fun n hn => ?_, by rw [List.length_append]; show l.length + 1 ≤ 63; omega⟩ (k2'.trans fun b o eb _ hg => by rw [upd_ne hg, upd_ne hg]; exact eb)
        · rw [upd_ne ndg, upd_ne ndg]
          exact a1'
        · rw [upd_same, el, List.map_append]
          rfl
        · rcases List.mem_append.mp hn with hn | hn
          · exact a4 n (List.mem_append_left _ hn)
          · rw [List.mem_singleton.mp hn]
            exact Int.ediv_nonneg hy (by omega)

/-! ### pick, mixed -/
def spPick : Sp := fun vs H Q _ => ∃ (d g l : Addr) (xs : List V), vs = [.ref d, .ref l] ∧ Deal d g H ∧ H l = some (.lst xs) ∧ l ≠ g ∧ 0 < xs.length ∧ xs.length ≤ 1000 ∧ ∀ (x : V) (H' : Hp), x ∈ xs → Deal d g H' → Kp d g H H' → Q x H'
theorem sc_pick : FnScope ["_law_deal", "_law_some"] ["_law_deal", "_law_some"] (defScope s_law_pick) := ⟨rfl, rfl, rfl, by decide +kernel, rfl, by decide +kernel, by decide +kernel⟩
/-- draw, as it is called -/
structure DrawOk (P : Program) (w : World) (K : PySem.W.Frag) (mg : Str → Option Value) (base : Heap) (f : Addr) (fd : FuncData) : Prop where
  g : FnOk P w K mg base CX0 1 f fd ["_law_deal", "_law_wide"] spDraw
  b : Binds K fd ["_law_deal", "_law_wide"] []
  m : mg "_law_draw" = some (.ref f)
  k : PySem.W.keepIn K (.ref f) = true
theorem Deal.nd {d g l : Addr} {H : Hp} {xs : List V} (D : Deal d g H) (h : H l = some (.lst xs)) : l ≠ d := by
  obtain ⟨_, _, a, _⟩ := D
  exact ne_of h a (by intro z; cases z)
theorem ok_pick {f fD : Addr} {fd dD : FuncData} (F : Fun K "_law_pick" "_law_pick" s_law_pick f fd) (B : Bn mg) (G : DrawOk P w K mg base fD dD) : FnOk P w K mg base CX0 2 f fd ["_law_deal", "_law_some"] spPick := by
  refine F.ok sc_pick (fun vs H Q E h => ?_) (fun cdv A outer s H vs Q E hr h => ?_)
  · obtain ⟨d, g, l, xs, rfl, _⟩ := h
    rfl
  · obtain ⟨d, g, l, xs, rfl, D, hl, hg, h0, h1, k⟩ := h
    refine ⟨_, pss_one (ps_ret (pe_ix ix_list (pv 1) (pe_call G.g hr (by rfl) G.m G.k G.b .nil pass0 (pa_cons (pv 0) (pa_cons (pe_callB call_len_seq (by rfl) B.len_ PySem.boot_len (pa_cons (pv 1) pa_nil)) pa_nil))) (fun _ _ => rfl))), ?_⟩
    refine ⟨_, rfl, _, rfl, _, rfl, l, xs, rfl, .inl (SqL.of hl), d, g, _, rfl, by omega, by omega, D, fun v H1 v0 v1 D1 k1 => ?_⟩
    have hl1 := k1 _ _ hl (D.nd hl) hg
    obtain ⟨j, rfl⟩ : ∃ j : Nat, v = (j : Int) := ⟨v.toNat, by omega⟩
    have hj : j < xs.length := by omega
    exact ⟨l, xs, _, xs[j], rfl, rfl, SqL.of hl1, atI_nat (List.getElem?_eq_getElem hj), k _ _ (List.getElem_mem hj) D1 k1⟩
def spMixed : Sp := fun vs H Q _ => ∃ (d g l : Addr) (xs : List V), vs = [.ref d, .ref l] ∧ Deal d g H ∧ H l = some (.lst xs) ∧ l ≠ g ∧ xs.length ≤ 1000 ∧
  ∀ (p : Addr) (ys : List V) (H' : Hp), ys.Perm xs → H' p = some (.lst ys) → H p = none → Deal d g H' → Kp d g H H' → Q (.ref p) H'
abbrev nMixed : List Str := ["_law_deal", "_law_some", "_law_others", "_law_found", "_law_turn"]
theorem sc_mixed : FnScope nMixed ["_law_deal", "_law_some"] (defScope s_law_mixed) := ⟨rfl, rfl, rfl, by decide +kernel, rfl, by decide +kernel, by decide +kernel⟩
theorem perm_move {α : Type} {a b : List α} {j : Nat} {y : α} (h : a[j]? = some y) : (a.eraseIdx j ++ (b ++ [y])).Perm (a ++ b) := by
  have hj : j < a.length := (List.getElem?_eq_some_iff.mp h).1
  have e : a = a.take j ++ y :: a.drop (j + 1) := by
    have := List.getElem_cons_drop hj
    have e2 : a[j] = y := (List.getElem?_eq_some_iff.mp h).2
    rw [e2] at this
    rw [this, List.take_append_drop]
  have e3 : a.eraseIdx j = a.take j ++ a.drop (j + 1) := List.eraseIdx_eq_take_drop_succ a j
  rw [e3]
  have p1 : (a.take j ++ a.drop (j + 1) ++ (b ++ [y])).Perm ([y] ++ (a.take j ++ a.drop (j + 1) ++ b)) := by
    rw [← List.append_assoc]
    exact List.perm_append_comm
  refine p1.trans ?_
  have p2 : (a ++ b).Perm ([y] ++ (a.take j ++ a.drop (j + 1) ++ b)) := by
    have : a ++ b = a.take j ++ (y :: (a.drop (j + 1) ++ b)) := by
      conv => lhs; rw [e]
      rw [List.append_assoc]; rfl
    rw [this, List.append_assoc]
    exact List.perm_middle
  exact p2.symm
theorem Deal.upd {d g a : Addr} {H : Hp} {o : HO} (D : Deal d g H) (h1 : a ≠ d) (h2 : a ≠ g) : Deal d g (L2.upd H a o) := by
  obtain ⟨m, ns, x, y, r⟩ := D
  exact ⟨m, ns, by rw [upd_ne h1.symm]; exact x, by rw [upd_ne h2.symm]; exact y, r⟩
theorem Kp.upd {d g a : Addr} {H H' : Hp} {o : HO} (k : Kp d g H H') (h : H a = none) : Kp d g H (L2.upd H' a o) := fun b u e h1 h2 => by rw [upd_ne (ne_of_none e h)]; exact k b u e h1 h2
theorem seq_ix {j n : Nat} (h : j < n) : seqIndex? (j : Int) n = some j := by
  have h1 : ¬ ((j : Int) < 0) := by omega
  unfold seqIndex?
  simp [h1, h]
theorem ok_mixed {f fD : Addr} {fd dD : FuncData} (F : Fun K "_law_mixed" "_law_mixed" s_law_mixed f fd) (B : Bn mg) (G : DrawOk P w K mg base fD dD) : FnOk P w K mg base CX0 2 f fd ["_law_deal", "_law_some"] spMixed := by
  refine F.ok sc_mixed (fun vs H Q E h => ?_) (fun cdv A outer s H vs Q E hr h => ?_)
  · obtain ⟨d, g, l, xs, rfl, _⟩ := h
    rfl
  · obtain ⟨d, g, l, xs, rfl, D, hl, hg, h1, k⟩ := h
    refine ⟨_, pss_cons (ps_par (i := 2) (j := 3) (by rfl) sc_mixed.nd rfl rfl (by decide) rfl rfl (pa_cons (pe_callTy call_list_of (by rfl) B.list_ (by decide +kernel) (pa_cons (pv 1) pa_nil)) (pa_cons (pe_lst pa_nil) pa_nil)) (by rfl))
      (pss_cons (ps_for PassesOwn.never rfl (pi_range1 rfl B.range_ (pa_cons (pe_callB call_len_seq (by rfl) B.len_ PySem.boot_len (pa_cons (pv 2) pa_nil)) pa_nil)) (pg_name (i := 4) sc_mixed.nd rfl (Or.inl rfl))
        (pss_one (ps_expr (pe_bm PySem.F.plainAttrs_list PySem.F.slot_list_append PySem.F.type_list_append mt_append (pv 3)
          (pa_cons (pe_bm PySem.F.plainAttrs_list PySem.F.slot_list_pop PySem.F.type_list_pop mt_popAt (pv 2) (pa_cons (pe_call G.g hr (by rfl) G.m G.k G.b .nil pass0 (pa_cons (pv 0) (pa_cons (pe_callB call_len_seq (by rfl) B.len_ PySem.boot_len (pa_cons (pv 2) pa_nil)) pa_nil))) pa_nil)) pa_nil)))))
      (pss_one (ps_ret (pv 3)))), ?_⟩
    refine ⟨_, rfl, l, xs, rfl, .inl (SqL.of hl), fun a ha => ⟨by show 0 ≤ sizeLine; decide, fun b hb => ⟨_, _, rfl, ?_⟩⟩⟩
    have s1 := same_new (o := .lst xs) ha
    have s2 := same_new (o := .lst []) hb
    have hA : upd (upd H a (.lst xs)) b (.lst []) a = some (.lst xs) := s2 _ _ upd_same
    refine ⟨_, rfl, a, xs, rfl, .inl (SqL.of hA), _, rfl, by omega, by omega, ?_⟩
    refine for_range (lo := 0) (n := xs.length) (fun i σ H2 => ∃ (v : Option V) (os fs : List V), σ = [some (.ref d), some (.ref l), some (.ref a), some (.ref b), v] ∧ H2 a = some (.lst os) ∧ H2 b = some (.lst fs) ∧ os.length = xs.length - i ∧ (os ++ fs).Perm xs ∧ Deal d g H2 ∧ Kp d g H H2 ∧ i ≤ xs.length)
      ⟨none, xs, [], rfl, hA, upd_same, by omega, by rw [List.append_nil], D.same (s1.trans s2), Kp.of (s1.trans s2), Nat.zero_le _⟩ ?_ ?_
    · rintro i σ H2 hi ⟨v, os, fs, rfl, ea, eb, hlen, hp, D2, k2, _⟩
      have hpl := hp.length_eq
      rw [List.length_append] at hpl
      refine ⟨_, rfl, .inl ⟨rfl, _, SqL.of eb⟩, _, rfl, .inl ⟨rfl, _, SqL.of ea⟩, _, rfl, _, rfl, a, os, rfl, .inl (SqL.of ea), d, g, _, rfl, by omega, by omega, D2, fun x H3 x0 x1 D3 k3 => ?_⟩
      have na : a ≠ g := fun z => by obtain ⟨_, _, _, q, _⟩ := D; rw [← z, ha] at q; cases q
      have nb : b ≠ g := fun z => by obtain ⟨_, _, _, q, _⟩ := D.same s1; rw [← z, hb] at q; cases q
      have ea3 := k3 _ _ ea (D2.nd ea) na
      have eb3 := k3 _ _ eb (D2.nd eb) nb
      have nab : a ≠ b := ne_of_none (H := upd H a (.lst xs)) upd_same hb
      obtain ⟨j, rfl⟩ : ∃ j : Nat, x = (j : Int) := ⟨x.toNat, by omega⟩
      have hj : j < os.length := by omega
      have hg1 : os[j]? = some os[j] := List.getElem?_eq_getElem hj
      refine ⟨a, os, _, j, os[j], rfl, rfl, ea3, by omega, by omega, ?_, hg1, b, fs, _, rfl, rfl, by rw [upd_ne nab.symm]; exact eb3, small1000 (by omega), ?_⟩
      · exact seq_ix hj
      · refine ⟨_, os.eraseIdx j, fs ++ [os[j]], rfl, by rw [upd_ne nab, upd_same], upd_same, ?_, (perm_move hg1).trans hp, ?_, ?_, hi⟩
        · rw [List.length_eraseIdx_of_lt hj]; omega
        · exact (D3.upd (D3.nd ea3) na).upd (D3.nd eb3) nb
        · exact ((k2.trans k3).upd ha).upd (Same.free s1 hb)
    · rintro σ H2 ⟨v, os, fs, rfl, ea, eb, hlen, hp, D2, k2, _⟩
      have e0 : os = [] := List.eq_nil_of_length_eq_zero (by omega)
      subst e0
      refine ⟨_, rfl, k b fs H2 hp eb ?_ D2 k2⟩
      exact Same.free s1 hb
end
end Ow
end
section
namespace Ow
open PySem L2 Own
section
variable {P : Program} {w : World} {K : PySem.W.Frag} {mg : Str → Option Value} {base : Heap} {c : Cs} {gs ge : Addr}
/-! ### row, rows, row_text -/
inductive So where
  | keep | tries | limit | leave | soft | count | lend
  deriving DecidableEq
def So.s : So → Str
  | .keep => "keep"
  | .tries => "tries"
  | .limit => "limit"
  | .leave => "leave"
  | .soft => "soft"
  | .count => "count"
  | .lend => "lend"
def R.so : R → So
  | .keep _ _ => .keep
  | .tries _ _ => .tries
  | .limit _ => .limit
  | .leave => .leave
  | .soft _ => .soft
  | .count => .count
  | .lend => .lend
/-- the tuple of a row -/
def tupOf : R → List V
  | .keep w l => [.str "keep", .str (wS w), lV l]
  | .tries n a => [.str "tries", .int n, .str (aS a)]
  | .limit n => [.str "limit", .int n]
  | .leave => [.str "leave"]
  | .soft a => [.str "soft", .str (aS a)]
  | .count => [.str "count"]
  | .lend => [.str "lend"]
structure PickOk (P : Program) (w : World) (K : PySem.W.Frag) (mg : Str → Option Value) (base : Heap) (f : Addr) (fd : FuncData) : Prop where
  g : FnOk P w K mg base CX0 2 f fd ["_law_deal", "_law_some"] spPick
  b : Binds K fd ["_law_deal", "_law_some"] []
  m : mg "_law_pick" = some (.ref f)
  k : PySem.W.keepIn K (.ref f) = true
def spRow : Sp := fun vs H Q _ => ∃ (d g : Addr) (k : So), vs = [.ref d, .str k.s] ∧ Deal d g H ∧ ∀ (t : Addr) (r : R) (H' : Hp), r.so = k → r.ok = true → H' t = some (.tup (tupOf r)) → H t = none → Deal d g H' → Kp d g H H' → Q (.ref t) H'
theorem sc_row : FnScope ["_law_deal", "_law_sort"] ["_law_deal", "_law_sort"] (defScope s_law_row) := ⟨rfl, rfl, rfl, by decide +kernel, rfl, by decide +kernel, by decide +kernel⟩
theorem so_eq (k j : So) : decide (V.str k.s = V.str j.s) = decide (k = j) := by
  have key : ∀ k ∈ [So.keep, .tries, .limit, .leave, .soft, .count, .lend], ∀ j ∈ [So.keep, .tries, .limit, .leave, .soft, .count, .lend], decide (V.str k.s = V.str j.s) = decide (k = j) := by decide +kernel
  have all : ∀ k : So, k ∈ [So.keep, .tries, .limit, .leave, .soft, .count, .lend] := by intro k; cases k <;> decide
  exact key k (all k) j (all j)
/-- pick from a list that was just made -/
theorem pick_new {d g l : Addr} {xs : List V} {H : Hp} {Q : VK} (D : Deal d g H) (hl : H l = none) (h0 : 0 < xs.length) (h1 : xs.length ≤ 1000) (k : ∀ (x : V) (H' : Hp), x ∈ xs → Deal d g H' → Kp d g H H' → Q x H') : spPick [.ref d, .ref l] (upd H l (.lst xs)) Q E0 := by
  have s := same_new (o := .lst xs) hl
  have ng : l ≠ g := fun z => by obtain ⟨_, _, _, q, _⟩ := D; rw [← z, hl] at q; cases q
  exact ⟨d, g, l, xs, rfl, D.same s, upd_same, ng, h0, h1, fun x H' hx D' k' => k x H' hx D' ((Kp.of s).trans k')⟩
theorem ok_row {f fP fD : Addr} {fd dP dD : FuncData} (F : Fun K "_law_row" "_law_row" s_law_row f fd) (G : PickOk P w K mg base fP dP) (GD : DrawOk P w K mg base fD dD) : FnOk P w K mg base CX0 3 f fd ["_law_deal", "_law_sort"] spRow := by
  refine F.ok sc_row (fun vs H Q E h => ?_) (fun cdv A outer s H vs Q E hr h => ?_)
  · obtain ⟨d, g, k, rfl, _⟩ := h
    rfl
  · obtain ⟨d, g, so, rfl, D, k⟩ := h
    have hr1 : Room 1 _ := hr.mono (by decide)
    refine ⟨_, pss_cons (ps_if (pt_cmpR op_eq (pv 1) pe_str (nomark _))
        (pss_one (ps_ret (pe_tup (pa_cons (pv 1) (pa_cons (pe_call G.g hr (by rfl) G.m G.k G.b .nil pass0 (pa_cons (pv 0) (pa_cons (pe_lst (pa_cons pe_str (pa_cons pe_str pa_nil))) pa_nil))) (pa_cons (pe_call G.g hr (by rfl) G.m G.k G.b .nil pass0 (pa_cons (pv 0) (pa_cons (pe_lst (pa_cons pe_non (pa_cons pe_non (pa_cons pe_int (pa_cons pe_int (pa_cons pe_int (pa_cons pe_int pa_nil))))))) pa_nil))) pa_nil)))))) pss_nil)
      (pss_cons (ps_if (pt_cmpR op_eq (pv 1) pe_str (nomark _))
        (pss_one (ps_ret (pe_tup (pa_cons (pv 1) (pa_cons (pe_op op_add pe_int (pe_call GD.g hr1 (by rfl) GD.m GD.k GD.b .nil pass0 (pa_cons (pv 0) (pa_cons pe_int pa_nil)))) (pa_cons (pe_call G.g hr (by rfl) G.m G.k G.b .nil pass0 (pa_cons (pv 0) (pa_cons (pe_lst (pa_cons pe_str (pa_cons pe_str pa_nil))) pa_nil))) pa_nil)))))) pss_nil)
      (pss_cons (ps_if (pt_cmpR op_eq (pv 1) pe_str (nomark _))
        (pss_one (ps_ret (pe_tup (pa_cons (pv 1) (pa_cons (pe_op op_add pe_int (pe_call GD.g hr1 (by rfl) GD.m GD.k GD.b .nil pass0 (pa_cons (pv 0) (pa_cons pe_int pa_nil)))) pa_nil))))) pss_nil)
      (pss_one (ps_ret (pe_ifExp (pt_cmpR op_eq (pv 1) pe_str (nomark _))
        (pe_tup (pa_cons (pv 1) (pa_cons (pe_call G.g hr (by rfl) G.m G.k G.b .nil pass0 (pa_cons (pv 0) (pa_cons (pe_lst (pa_cons pe_str (pa_cons pe_str pa_nil))) pa_nil))) pa_nil)))
        (pe_tup (pa_cons (pv 1) pa_nil))))))), ?_⟩
    have eK : decide (V.str so.s = V.str ("keep" : Str)) = decide (so = .keep) := so_eq so .keep
    have eT : decide (V.str so.s = V.str ("tries" : Str)) = decide (so = .tries) := so_eq so .tries
    have eL : decide (V.str so.s = V.str ("limit" : Str)) = decide (so = .limit) := so_eq so .limit
    have eS : decide (V.str so.s = V.str ("soft" : Str)) = decide (so = .soft) := so_eq so .soft
    have ends : ∀ {H1 : Hp} {t : Addr} {r : R}, r.so = so → r.ok = true → Deal d g H1 → Kp d g H H1 → H1 t = none → Q (.ref t) (upd H1 t (.tup (tupOf r))) := fun {H1 t r} e1 e2 D1 k1 ht =>
      k t r _ e1 e2 upd_same (D.free D1 k1 ht) (D1.same (same_new ht)) (k1.trans (Kp.of (same_new ht)))
    refine ⟨_, rfl, rfl, _, rfl, ?_⟩
    rw [eK]
    cases so with
    | keep =>
      refine iteT ?_
      refine ⟨_, rfl, _, rfl, by show 2 ≤ sizeLine; decide, fun l1 n1 => pick_new D n1 (by decide) (by decide) fun x1 H1 hx1 D1 k1 => ?_⟩
      refine ⟨_, rfl, by show 6 ≤ sizeLine; decide, fun l2 n2 => pick_new D1 n2 (by decide) (by decide) fun x2 H2 hx2 D2 k2 => ⟨by show 3 ≤ sizeLine; decide, fun t ht => ?_⟩⟩
      obtain ⟨wh, rfl⟩ : ∃ wh, x1 = .str (wS wh) := by
        simp at hx1
        rcases hx1 with rfl | rfl
        · exact ⟨false, rfl⟩
        · exact ⟨true, rfl⟩
      obtain ⟨lf, rfl, hlf⟩ : ∃ lf, x2 = lV lf ∧ (R.keep wh lf).ok = true := by
        simp at hx2
        rcases hx2 with rfl | rfl | rfl | rfl | rfl
        · exact ⟨none, rfl, rfl⟩
        · exact ⟨some 0, rfl, rfl⟩
        · exact ⟨some 1, rfl, rfl⟩
        · exact ⟨some 2, rfl, rfl⟩
        · exact ⟨some 3, rfl, rfl⟩
      exact ends (r := .keep wh lf) rfl hlf D2 (k1.trans k2) ht
    | tries =>
      refine iteF ⟨_, rfl, rfl, _, rfl, ?_⟩
      rw [eT]
      refine iteT ?_
      refine ⟨_, rfl, _, rfl, d, g, 3, rfl, by decide, by decide, D, fun v H1 v0 v1 D1 k1 => ?_⟩
      refine ⟨_, _, rfl, rfl, _, rfl, by show 2 ≤ sizeLine; decide, fun l2 n2 => pick_new D1 n2 (by decide) (by decide) fun x2 H2 hx2 D2 k2 => ⟨by show 3 ≤ sizeLine; decide, fun t ht => ?_⟩⟩
      obtain ⟨a, rfl⟩ : ∃ a, x2 = .str (aS a) := by
        simp at hx2
        rcases hx2 with rfl | rfl
        · exact ⟨false, rfl⟩
        · exact ⟨true, rfl⟩
      obtain ⟨n, en, n1, n3⟩ : ∃ n : Nat, 1 + v = (n : Int) ∧ 1 ≤ n ∧ n ≤ 3 := ⟨(1 + v).toNat, by omega, by omega, by omega⟩
      have hok : (R.tries n a).ok = true := decide_eq_true ⟨n1, n3⟩
      show Q (.ref t) (upd H2 t (.tup [.str "tries", .int (1 + v), .str (aS a)]))
      rw [en]
      exact ends (r := .tries n a) rfl hok D2 (k1.trans k2) ht
    | limit =>
      refine iteF ⟨_, rfl, rfl, _, rfl, ?_⟩
      rw [eT]
      refine iteF ⟨_, rfl, rfl, _, rfl, ?_⟩
      rw [eL]
      refine iteT ?_
      refine ⟨_, rfl, _, rfl, d, g, 4, rfl, by decide, by decide, D, fun v H1 v0 v1 D1 k1 => ?_⟩
      refine ⟨_, _, rfl, rfl, by show 2 ≤ sizeLine; decide, fun t ht => ?_⟩
      obtain ⟨n, en, n1, n3⟩ : ∃ n : Nat, 1 + v = (n : Int) ∧ 1 ≤ n ∧ n ≤ 6 := ⟨(1 + v).toNat, by omega, by omega, by omega⟩
      have hok : (R.limit n).ok = true := decide_eq_true ⟨n1, n3⟩
      show Q (.ref t) (upd H1 t (.tup [.str "limit", .int (1 + v)]))
      rw [en]
      exact ends (r := .limit n) rfl hok D1 k1 ht
    | soft =>
      refine iteF ⟨_, rfl, rfl, _, rfl, ?_⟩
      rw [eT]
      refine iteF ⟨_, rfl, rfl, _, rfl, ?_⟩
      rw [eL]
      refine iteF ⟨_, rfl, rfl, _, rfl, ?_⟩
      rw [eS]
      refine iteT ?_
      refine ⟨_, rfl, _, rfl, by show 2 ≤ sizeLine; decide, fun l2 n2 => pick_new D n2 (by decide) (by decide) fun x2 H2 hx2 D2 k2 => ⟨by show 2 ≤ sizeLine; decide, fun t ht => ?_⟩⟩
      obtain ⟨a, rfl⟩ : ∃ a, x2 = .str (aS a) := by
        simp at hx2
        rcases hx2 with rfl | rfl
        · exact ⟨false, rfl⟩
        · exact ⟨true, rfl⟩
      exact ends (r := .soft a) rfl rfl D2 k2 ht
    | leave =>
      refine iteF ⟨_, rfl, rfl, _, rfl, ?_⟩
      rw [eT]
      refine iteF ⟨_, rfl, rfl, _, rfl, ?_⟩
      rw [eL]
      refine iteF ⟨_, rfl, rfl, _, rfl, ?_⟩
      rw [eS]
      refine iteF ⟨_, rfl, by show 1 ≤ sizeLine; decide, fun t ht => ?_⟩
      exact ends (r := .leave) rfl rfl D (Kp.refl H) ht
    | count =>
      refine iteF ⟨_, rfl, rfl, _, rfl, ?_⟩
      rw [eT]
      refine iteF ⟨_, rfl, rfl, _, rfl, ?_⟩
      rw [eL]
      refine iteF ⟨_, rfl, rfl, _, rfl, ?_⟩
      rw [eS]
      refine iteF ⟨_, rfl, by show 1 ≤ sizeLine; decide, fun t ht => ?_⟩
      exact ends (r := .count) rfl rfl D (Kp.refl H) ht
    | lend =>
      refine iteF ⟨_, rfl, rfl, _, rfl, ?_⟩
      rw [eT]
      refine iteF ⟨_, rfl, rfl, _, rfl, ?_⟩
      rw [eL]
      refine iteF ⟨_, rfl, rfl, _, rfl, ?_⟩
      rw [eS]
      refine iteF ⟨_, rfl, by show 1 ≤ sizeLine; decide, fun t ht => ?_⟩
      exact ends (r := .lend) rfl rfl D (Kp.refl H) ht

structure MixedOk (P : Program) (w : World) (K : PySem.W.Frag) (mg : Str → Option Value) (base : Heap) (f : Addr) (fd : FuncData) : Prop where
  g : FnOk P w K mg base CX0 2 f fd ["_law_deal", "_law_some"] spMixed
  b : Binds K fd ["_law_deal", "_law_some"] []
  m : mg "_law_mixed" = some (.ref f)
  k : PySem.W.keepIn K (.ref f) = true
structure RowOk (P : Program) (w : World) (K : PySem.W.Frag) (mg : Str → Option Value) (base : Heap) (f : Addr) (fd : FuncData) : Prop where
  g : FnOk P w K mg base CX0 3 f fd ["_law_deal", "_law_sort"] spRow
  b : Binds K fd ["_law_deal", "_law_sort"] []
  m : mg "_law_row" = some (.ref f)
  k : PySem.W.keepIn K (.ref f) = true
/-- the tuple of the row r stands at t -/
def TupAt (H : Hp) (t : Addr) (r : R) : Prop := H t = some (.tup (tupOf r)) ∧ r.ok = true
def TupsAt (H : Hp) : List Addr → List R → Prop := Paired (TupAt H)
theorem TupAt.kp {d g : Addr} {H H' : Hp} {t : Addr} {r : R} (D : Deal d g H) (k : Kp d g H H') (h : TupAt H t r) : TupAt H' t r := by
  obtain ⟨m, ns, a, b, _⟩ := D
  exact ⟨k _ _ h.1 (ne_of h.1 a (by intro z; cases z)) (ne_of h.1 b (by intro z; cases z)), h.2⟩
theorem TupsAt.kp {d g : Addr} {H H' : Hp} {ts : List Addr} {rs : List R} (D : Deal d g H) (k : Kp d g H H') (h : TupsAt H ts rs) : TupsAt H' ts rs := Paired.mapP h fun _ _ => TupAt.kp D k
theorem TupsAt.same {H H' : Hp} {ts : List Addr} {rs : List R} (s : Same H H') (h : TupsAt H ts rs) : TupsAt H' ts rs := Paired.mapP h fun _ _ x => ⟨s _ _ x.1, x.2⟩
theorem TupsAt.upd {H : Hp} {ts : List Addr} {rs : List R} {D : Addr} {xs : List V} {o : HO} (hD : H D = some (.lst xs)) (h : TupsAt H ts rs) : TupsAt (L2.upd H D o) ts rs :=
  Paired.mapP h fun _ _ x => ⟨by rw [upd_ne (ne_of x.1 hD (by intro z; cases z))]; exact x.1, x.2⟩
theorem TupsAt.snoc {H : Hp} : ∀ {ps : List Addr} {rs : List R} {q : Addr} {r : R}, TupsAt H ps rs → TupAt H q r → TupsAt H (ps ++ [q]) (rs ++ [r])
  | _, _, _, _, .nil, h => .cons h .nil
  | _, _, _, _, .cons a t, h => .cons a (TupsAt.snoc t h)
def spRows : Sp := fun vs H Q _ => ∃ (d g : Addr) (n : Nat), vs = [.ref d, .int n] ∧ n ≤ 12 ∧ Deal d g H ∧
  ∀ (l : Addr) (ts : List Addr) (rs : List R) (H' : Hp), H' l = some (.lst (ts.map V.ref)) → TupsAt H' ts rs → rs.length = n → H l = none → Deal d g H' → Kp d g H H' → Q (.ref l) H'
abbrev nRows : List Str := ["_law_deal", "_law_amount", "_law_sorts", "_law_sort"]
theorem sc_rows : FnScope nRows ["_law_deal", "_law_amount"] (defScope s_law_rows) := ⟨rfl, rfl, rfl, by decide +kernel, rfl, by decide +kernel, by decide +kernel⟩
def sortsL : List So := [.keep, .tries, .limit, .leave, .soft, .count, .lend, .keep, .tries, .soft, .count, .leave]
theorem cut_none {xs : List V} {n : Nat} : cutV xs none (some (n : Int)) = xs.take n := by
  unfold cutV
  rw [HT.sIx_none, HT.sIx_nat, List.drop_zero, Nat.sub_zero]
  by_cases h : n ≤ xs.length
  · rw [Nat.min_eq_left h]
  · rw [Nat.min_eq_right (by omega), List.take_length, List.take_of_length_le (by omega)]
theorem ok_rows {f fM fR : Addr} {fd dM dR : FuncData} (F : Fun K "_law_rows" "_law_rows" s_law_rows f fd) (GM : MixedOk P w K mg base fM dM) (GR : RowOk P w K mg base fR dR) : FnOk P w K mg base CX0 4 f fd ["_law_deal", "_law_amount"] spRows := by
  refine F.ok sc_rows (fun vs H Q E h => ?_) (fun cdv A outer s H vs Q E hr h => ?_)
  · obtain ⟨d, g, n, rfl, _⟩ := h
    rfl
  · obtain ⟨d, g, n, rfl, hn, D, k⟩ := h
    have hr2 : Room 2 _ := hr.mono (by decide)
    refine ⟨_, pss_cons (ps_set (i := 2) sc_rows.nd rfl (Or.inl rfl) (pe_lst (pa_cons pe_str (pa_cons pe_str (pa_cons pe_str (pa_cons pe_str (pa_cons pe_str (pa_cons pe_str (pa_cons pe_str (pa_cons pe_str (pa_cons pe_str (pa_cons pe_str (pa_cons pe_str (pa_cons pe_str pa_nil))))))))))))))
      (pss_one (ps_ret (pe_lc (own := [("_law_sort", 3)]) (g := gName 3) (tt := tYes) rfl sc_rows.nd (pi_list (pe_slice sl_list (pe_call GM.g hr2 (by rfl) GM.m GM.k GM.b .nil pass0 (pa_cons (pv 0) (pa_cons (pv 2) pa_nil))) po_none (po_some (pv 1))))
        (blkOk_by (N := nRows) (sc := defScope s_law_rows) (by decide +kernel)) (fun _ _ _ _ _ => pg_name (i := 3) sc_rows.nd rfl (Or.inl rfl)) (fun _ _ _ _ _ => pts_nil)
        (fun _ _ _ _ _ => pe_call GR.g hr (by rfl) GR.m GR.k GR.b .nil pass0 (pa_cons (pv 0) (pa_cons (pv 3) pa_nil)))))), ?_⟩
    refine ⟨by show 12 ≤ sizeLine; decide, fun a ha => ?_⟩
    have s1 := same_new (o := .lst (sortsL.map fun k => V.str k.s)) ha
    have D1 := D.same s1
    have na : a ≠ g := fun z => by obtain ⟨_, _, _, q, _⟩ := D; rw [← z, ha] at q; cases q
    refine ⟨_, rfl, _, rfl, d, g, a, sortsL.map (fun k => V.str k.s), rfl, D1, upd_same, na, by decide, fun p ys H2 hp hys np D2 k2 => ?_⟩
    have hlen : ys.length = 12 := hp.length_eq
    refine ⟨_, rfl, _, rfl, p, ys, rfl, SqL.of hys, fun q hq => ?_⟩
    rw [cut_none]
    have s2 := same_new (o := .lst (ys.take n)) hq
    refine ⟨q, rfl, ⟨_, SqL.of upd_same⟩, fun C hC => ?_⟩
    have hCq : C ≠ q := fun z => by rw [z, upd_same] at hC; cases hC
    have D3 := D2.same s2
    have nC0 : H C = none := by
      have e1 := Same.free s2 hC
      exact Same.free s1 (D1.free D2 k2 e1)
    have nq0 : H q = none := Same.free s1 (D1.free D2 k2 hq)
    have nqg : q ≠ g := fun z => by obtain ⟨_, _, _, x, _⟩ := D; rw [← z, nq0] at x; cases x
    have nqd : q ≠ d := fun z => by obtain ⟨_, _, x, _⟩ := D; rw [← z, nq0] at x; cases x
    have nCg : C ≠ g := fun z => by obtain ⟨_, _, _, x, _⟩ := D; rw [← z, nC0] at x; cases x
    have nCd : C ≠ d := fun z => by obtain ⟨_, _, x, _⟩ := D; rw [← z, nC0] at x; cases x
    refine lc_list (K := K) (a := q) (xs := ys.take n) (fun i H3 => ∃ (ts : List Addr) (rs : List R), H3 C = some (.lst (ts.map V.ref)) ∧ TupsAt H3 ts rs ∧ rs.length = i ∧ Deal d g H3 ∧ Kp d g H H3 ∧ H3 q = some (.lst (ys.take n)))
      ⟨[], [], upd_same, .nil, rfl, D3.upd nCd nCg, ((Kp.of s1).trans (k2.trans (Kp.of s2))).upd nC0, by rw [upd_ne hCq.symm]; exact upd_same⟩ (fun i H3 _ ⟨_, _, _, _, _, _, _, z⟩ => SqL.of z) ?_ ?_
    · rintro i x H3 hx ⟨ts, rs, eC, hT, hl, D3', k3, eq3⟩
      have hi : i < n := by
        have h9 := (List.getElem?_eq_some_iff.mp hx).1
        rw [List.length_take] at h9; omega
      obtain ⟨so, rfl⟩ : ∃ so : So, x = .str so.s := by
        have h8 : x ∈ ys := List.mem_of_mem_take (List.mem_of_getElem? hx)
        have h7 := hp.mem_iff.mp h8
        obtain ⟨so, _, e⟩ := List.mem_map.mp h7
        exact ⟨so, e.symm⟩
      refine ⟨by rfl, _, rfl, _, rfl, d, g, so, rfl, D3', fun t r H4 _ rok et nt D4 k4 => ?_⟩
      have eC4 := k4 _ _ eC nCd nCg
      refine ⟨_, eC4, by rw [List.length_map, Paired.length hT, hl]; exact small1000 (by omega), ts ++ [t], rs ++ [r], by rw [upd_same, List.map_append]; rfl, ?_, by rw [List.length_append, hl]; rfl, D4.upd nCd nCg, (k3.trans k4).upd nC0, ?_⟩
      · exact ((hT.kp D3' k4).snoc ⟨et, rok⟩).upd eC4
      · rw [upd_ne hCq.symm]
        exact k4 _ _ eq3 nqd nqg
    · rintro H3 ⟨ts, rs, eC, hT, hl, D3', k3, _⟩
      refine k C ts rs H3 eC hT ?_ nC0 D3' k3
      rw [hl, List.length_take, hlen]
      omega
end
end Ow
end
section
namespace Ow
open PySem L2 Own
section
variable {P : Program} {w : World} {K : PySem.W.Frag} {mg : Str → Option Value} {base : Heap} {c : Cs} {gs ge : Addr}
theorem call_str_none {X : Cx} : CallR X (.type "str") (fun xs H Q => xs = [.non] ∧ Q (.str "None") H) := by
  intro pins s σ H xs us Q I r h
  obtain ⟨rfl, q⟩ := h
  obtain ⟨u, rfl, ru⟩ := r.one
  cases (show u = Value.none from ru)
  exact PySem.P.str_of_none ⟨.str _, H, I.tok _, ⟨_, rfl⟩, q⟩
def partV : V → V
  | .str x => .str x
  | .int i => .str (Str.ofString (toString i))
  | _ => .str "None"
def spRowText : Sp := fun vs H Q _ => ∃ (t : Addr) (r : R), vs = [.ref t] ∧ TupAt H t r ∧ ∀ H', Same H H' → Q (.str r.text) H'
abbrev nRT : List Str := ["_law_row_here", "_law_words", "_law_part"]
theorem sc_row_text : FnScope nRT ["_law_row_here"] (defScope s_law_row_text) := ⟨rfl, rfl, rfl, by decide +kernel, rfl, by decide +kernel, by decide +kernel⟩
theorem part_kinds {r : R} (hok : r.ok = true) : ∀ x ∈ tupOf r, (∃ y, x = .str y) ∨ (∃ n : Nat, x = .int n ∧ n ≤ 6) ∨ x = .non := by
  cases r with
  | keep w l =>
    cases l with
    | none => intro x hx; simp [tupOf, lV] at hx; rcases hx with rfl | rfl | rfl <;> simp
    | some n =>
      have h : n ≤ 3 := of_decide_eq_true hok
      intro x hx; simp [tupOf, lV] at hx
      rcases hx with rfl | rfl | rfl
      · exact .inl ⟨_, rfl⟩
      · exact .inl ⟨_, rfl⟩
      · exact .inr (.inl ⟨n, rfl, by omega⟩)
  | tries n a =>
    have h : 1 ≤ n ∧ n ≤ 3 := of_decide_eq_true hok
    intro x hx; simp [tupOf] at hx
    rcases hx with rfl | rfl | rfl
    · exact .inl ⟨_, rfl⟩
    · exact .inr (.inl ⟨n, rfl, by omega⟩)
    · exact .inl ⟨_, rfl⟩
  | limit n =>
    have h : 1 ≤ n ∧ n ≤ 6 := of_decide_eq_true hok
    intro x hx; simp [tupOf] at hx
    rcases hx with rfl | rfl
    · exact .inl ⟨_, rfl⟩
    · exact .inr (.inl ⟨n, rfl, h.2⟩)
  | leave => intro x hx; simp [tupOf] at hx; exact .inl ⟨_, hx⟩
  | soft a =>
    intro x hx; simp [tupOf] at hx
    rcases hx with rfl | rfl <;> exact .inl ⟨_, rfl⟩
  | count => intro x hx; simp [tupOf] at hx; exact .inl ⟨_, hx⟩
  | lend => intro x hx; simp [tupOf] at hx; exact .inl ⟨_, hx⟩
/-- its last part is None: just a keep for ever -/
theorem tup_last (r : R) : ∃ x, atI (tupOf r) (-1) = some x ∧ ((∃ w, r = .keep w none) ∧ x = .non ∨ (decide (x = .non) = false ∧ (tupOf r).map partV = r.words.map V.str)) := by
  cases r with
  | keep w l =>
    cases l with
    | none => exact ⟨.non, rfl, .inl ⟨⟨w, rfl⟩, rfl⟩⟩
    | some n => exact ⟨.int n, rfl, .inr ⟨rfl, rfl⟩⟩
  | tries n a => exact ⟨.str (aS a), rfl, .inr ⟨rfl, rfl⟩⟩
  | limit n => exact ⟨.int n, rfl, .inr ⟨rfl, rfl⟩⟩
  | leave => exact ⟨_, rfl, .inr ⟨rfl, rfl⟩⟩
  | soft a => exact ⟨.str (aS a), rfl, .inr ⟨rfl, rfl⟩⟩
  | count => exact ⟨_, rfl, .inr ⟨rfl, rfl⟩⟩
  | lend => exact ⟨_, rfl, .inr ⟨rfl, rfl⟩⟩
theorem ok_row_text {f : Addr} {fd : FuncData} (F : Fun K "_law_row_text" "_law_row_text" s_law_row_text f fd) (B : Bn mg) : FnOk P w K mg base CX0 1 f fd ["_law_row_here"] spRowText := by
  refine F.ok sc_row_text (fun vs H Q E h => ?_) (fun cdv A outer s H vs Q E hr h => ?_)
  · obtain ⟨t, r, rfl, _⟩ := h
    rfl
  · obtain ⟨t, r, rfl, ⟨ht, hok⟩, k⟩ := h
    refine ⟨_, pss_cons (ps_setLc (i := 1) (own := [("_law_part", 2)]) (g := gName 2) (tt := tYes) rfl sc_row_text.nd rfl rfl (sw_true rfl rfl rfl (by decide +kernel)) (pi_tup (pv 0))
        (blkOk_by (N := nRT) (sc := defScope s_law_row_text) (by decide +kernel)) (fun _ _ _ _ _ => pg_name (i := 2) sc_row_text.nd rfl (Or.inl rfl)) (fun _ _ _ _ _ => pts_nil)
        (fun _ _ _ _ _ => pe_callTy (CallR.or SkE.call_str_str (CallR.or call_str_int call_str_none)) (by rfl) B.str_ (by decide +kernel) (pa_cons (pv 2) pa_nil)))
      (pss_one (ps_ret (pe_ifExp (pt_cmp (pc_isN (pe_ix ix_tup (pv 0) (pe_un un_neg pe_int) (fun _ _ => rfl))))
        (pe_join pe_str (pe_op op_cat (pe_slice sl_list (pv 1) po_none (po_some (pe_un un_neg pe_int))) (pe_lst (pa_cons pe_str pa_nil))))
        (pe_join pe_str (pv 1))))), ?_⟩
    refine ⟨_, rfl, t, rfl, ⟨_, SqT.of ht⟩, fun D hD => ?_⟩
    have hlen : (tupOf r).length ≤ 3 := by cases r <;> simp [tupOf]
    refine lc_tup (K := K) (a := t) (xs := tupOf r) (fun i H2 => H2 D = some (.lst (((tupOf r).take i).map partV)) ∧ Same H H2) ⟨upd_same, same_new hD⟩ (fun i H2 _ z => SqT.of (z.2 _ _ ht)) ?_ ?_
    · rintro i x H2 hx ⟨eD, s2⟩
      have hm : x ∈ tupOf r := List.mem_of_getElem? hx
      have fin : ∃ acc, H2 D = some (.lst acc) ∧ acc.length < sizeLine ∧ (upd H2 D (.lst (acc ++ [partV x]))) D = some (.lst (((tupOf r).take (i + 1)).map partV)) ∧ Same H (upd H2 D (.lst (acc ++ [partV x]))) := by
        refine ⟨_, eD, ?_, ?_, same_upd s2 hD⟩
        · rw [List.length_map, List.length_take]; exact small1000 (by omega)
        · rw [upd_same, take_next hx, List.map_append]; rfl
      rcases part_kinds hok x hm with ⟨y, rfl⟩ | ⟨n, rfl, hn⟩ | rfl
      · exact ⟨by rfl, _, rfl, .inl ⟨y, rfl, fin⟩⟩
      · exact ⟨by rfl, _, rfl, .inr (.inl ⟨_, rfl, log_small hn, fin⟩)⟩
      · exact ⟨by rfl, _, rfl, .inr (.inr ⟨rfl, fin⟩)⟩
    · rintro H2 ⟨eD, s2⟩
      rw [List.take_length] at eD
      obtain ⟨x, hx, h⟩ := tup_last r
      refine ⟨_, rfl, _, rfl, t, _, _, x, rfl, rfl, SqT.of (s2 _ _ ht), hx, _, rfl, ?_⟩
      rcases h with ⟨⟨wh, rfl⟩, rfl⟩ | ⟨e1, e2⟩
      · refine iteT ?_
        refine ⟨⟨_, rfl⟩, _, rfl, _, rfl, _, rfl, D, _, rfl, SqL.of eD, fun p hp => ?_⟩
        refine ⟨by show 1 ≤ sizeLine; decide, fun q hq => ?_⟩
        have s3 := same_new (o := .lst (cutV ((tupOf (.keep wh none)).map partV) none (some (-1)))) hp
        have s4 := same_new (o := .lst [V.str "ever"]) hq
        refine ⟨p, q, _, _, rfl, rfl, s4 _ _ upd_same, upd_same, by show 2 + 1 ≤ sizeLine; decide, fun u hu => ?_⟩
        refine ⟨_, u, R.words (.keep wh none), rfl, rfl, .inl (SqL.of upd_same), (text_small hok).1, ?_⟩
        exact k _ (((s2.trans s3).trans s4).trans (same_new hu))
      · rw [e1]
        refine iteF ?_
        refine ⟨⟨_, rfl⟩, _, rfl, _, D, r.words, rfl, rfl, .inl (SqL.of (by rw [← e2]; exact eD)), (text_small hok).1, ?_⟩
        exact k _ s2

/-! ### source -/
theorem cut_ints (ns : List Int) (lo hi : Option Int) : ∃ ms : List Int, cutV (ns.map V.int) lo hi = ms.map V.int ∧ ms.length ≤ ns.length := by
  refine ⟨(ns.drop (HT.sIx ns.length 0 lo)).take (HT.sIx ns.length ns.length hi - HT.sIx ns.length 0 lo), ?_, ?_⟩
  · unfold cutV
    rw [List.length_map, List.map_take, List.map_drop]
  · rw [List.length_take, List.length_drop]; omega
def absI (n : Int) : Int := if n < 0 then -n else n
theorem absI_nn (n : Int) : 0 ≤ absI n := by unfold absI; split <;> omega
theorem merge_dl (g : Addr) (m : Int) : mergeK [] (dl g m) = dl g m := by
  have h1 : ¬ ((Sum.inr ("great" : Str) : Key) = Sum.inr ("mixed" : Str)) := by intro z; exact kGM (Sum.inr.inj z)
  unfold dl mergeK
  simp [putK, h1]
theorem int_at {ns : List Int} {i : Nat} {x : V} (h : (ns.map V.int)[i]? = some x) : ∃ z, ns[i]? = some z ∧ x = V.int z := by
  rw [List.getElem?_map] at h
  cases e : ns[i]? with
  | none => rw [e] at h; cases h
  | some z => rw [e] at h; exact ⟨z, rfl, (Option.some.inj h).symm⟩
def spSource (K : PySem.W.Frag) : Sp := fun vs H Q _ => ∃ (a : Addr) (ns : List Int) (b : Nat), vs = [.ref a, .int b] ∧ SqL K H a (ns.map V.int) ∧ ns.length ≤ 63 ∧ b ≤ 2 ∧ ∀ (d g : Addr) (H' : Hp), Same H H' → H d = none → H g = none → Deal d g H' → Q (.ref d) H'
abbrev nSource : List Str := ["_law_script", "_law_base", "_law_cells", "_law_mixed_here", "_law_cell"]
theorem sc_source : FnScope nSource ["_law_script", "_law_base"] (defScope s_law_source) := ⟨rfl, rfl, rfl, by decide +kernel, rfl, by decide +kernel, by decide +kernel⟩
theorem ok_source {f : Addr} {fd : FuncData} (F : Fun K "_law_source" "_law_source" s_law_source f fd) (B : Bn mg) : FnOk P w K mg base CX0 1 f fd ["_law_script", "_law_base"] (spSource K) := by
  refine F.ok sc_source (fun vs H Q E h => ?_) (fun cdv A outer s H vs Q E hr h => ?_)
  · obtain ⟨a, ns, b, rfl, _⟩ := h
    rfl
  · obtain ⟨a, ns, b, rfl, hS, hl, hb, k⟩ := h
    refine ⟨_, pss_cons (ps_setLc (i := 2) (own := [("_law_cell", 4)]) (g := gName 4) (tt := tYes) rfl sc_source.nd rfl rfl (sw_true rfl rfl rfl (by decide +kernel)) (pi_list (pe_slice sl_list (pv 0) (po_some (pv 1)) (po_some pe_int)))
        (blkOk_by (N := nSource) (sc := defScope s_law_source) (by decide +kernel)) (fun _ _ _ _ _ => pg_name (i := 4) sc_source.nd rfl (Or.inl rfl)) (fun _ _ _ _ _ => pts_nil)
        (fun _ _ _ _ _ => pe_callB call_abs (by rfl) B.abs_ (by decide +kernel) (pa_cons (pe_callTy call_int1 (by rfl) B.int_ (by decide +kernel) (pa_cons (pv 4) pa_nil)) pa_nil)))
      (pss_cons (ps_set (i := 3) sc_source.nd rfl (Or.inl rfl) (pe_op op_add pe_int (pe_op op_mul pe_int (pv 1))))
      (pss_cons (ps_for PassesOwn.never rfl (pi_list (pv 2)) (pg_name (i := 4) sc_source.nd rfl (Or.inl rfl))
        (pss_one (ps_set (i := 3) sc_source.nd rfl (Or.inl rfl) (pe_op op_mod (pe_callTy call_int1 (by rfl) B.int_ (by decide +kernel) (pa_cons (pe_op op_add (pe_op op_add (pe_op op_mul (pv 3) pe_int) (pe_op op_mod (pe_callTy call_int1 (by rfl) B.int_ (by decide +kernel) (pa_cons (pv 4) pa_nil)) pe_int)) pe_int) pa_nil)) pe_int))))
      (pss_one (ps_ret (pe_disp (pps_cons pe_str (pe_revL (pe_lc (own := [("_law_cell", 4)]) (g := gName 4) (tt := tTest (tOp (rI0 fun i j => .bl (decide (j ≤ i))) (tVar 4) (tOp (rI CPow fun i j => .int (i ^ j.toNat)) (tC (.int 10)) (tC (.int 18))))) rfl sc_source.nd (pi_list (pv 2))
        (blkOk_by (N := nSource) (sc := defScope s_law_source) (by decide +kernel)) (fun _ _ _ _ _ => pg_name (i := 4) sc_source.nd rfl (Or.inl rfl)) (fun _ _ _ _ _ => pts_one (pt_cmpR op_ge (pv 4) (pe_op op_pow pe_int pe_int) (nomark _)))
        (fun _ _ _ _ _ => pv 4))) (pps_cons pe_str (pv 3) pps_nil)) (by rfl) (by rfl) (fun z => by cases z) (by decide)))))), ?_⟩
    obtain ⟨ms, ems, lms⟩ := cut_ints ns (some (b : Int)) (some 62)
    refine ⟨_, rfl, _, rfl, _, rfl, _, rfl, a, _, rfl, hS, fun p hp => ?_⟩
    rw [ems]
    have s1 := same_new (o := .lst (ms.map V.int)) hp
    refine ⟨p, rfl, ⟨_, SqL.of upd_same⟩, fun D hD => ?_⟩
    have hDp : p ≠ D := fun z => by rw [← z, upd_same] at hD; cases hD
    refine lc_list (K := K) (a := p) (xs := ms.map V.int) (fun i H2 => H2 D = some (.lst (((ms.take i).map absI).map V.int)) ∧ Same (upd H p (.lst (ms.map V.int))) H2) ⟨upd_same, same_new hD⟩ (fun i H2 _ z => SqL.of (z.2 _ _ upd_same)) ?_ ?_
    · rintro i x H2 hx ⟨eD, s2⟩
      obtain ⟨z, hz, rfl⟩ := int_at hx
      refine ⟨by rfl, _, rfl, .inl ⟨_, rfl, _, rfl, _, eD, ?_, ?_, same_upd s2 hD⟩⟩
      · rw [List.length_map, List.length_map, List.length_take]; exact small1000 (by omega)
      · rw [upd_same, take_next hz, List.map_append, List.map_append]; rfl
    · rintro H2 ⟨eD, s2⟩
      rw [List.length_map, List.take_length] at eD
      refine ⟨_, rfl, _, _, rfl, rfl, .inl ⟨by decide, by decide⟩, _, _, rfl, rfl, ?_⟩
      refine ⟨_, rfl, D, rfl, ⟨_, SqL.of eD⟩, ?_⟩
      refine for_list (K := K) (a := D) (xs := (ms.map absI).map V.int) (fun i σ H3 => ∃ (m : Int) (v : Option V), σ = [some (.ref a), some (.int b), some (.ref D), some (.int m), v] ∧ 0 ≤ m ∧ m < 2147483647 ∧ H3 = H2)
        ⟨_, none, rfl, by omega, by omega, rfl⟩ (fun i σ H3 _ ⟨_, _, _, _, _, e⟩ => by rw [e]; exact SqL.of eD) ?_ ?_
      · rintro i x σ H3 hx ⟨m, v, rfl, m0, m1, rfl⟩
        obtain ⟨z, hz, rfl⟩ := int_at hx
        refine ⟨_, rfl, _, _, rfl, rfl, .inl ⟨by omega, by omega⟩, _, rfl, .inl ⟨_, rfl, _, _, rfl, rfl, by show (0 : Int) < 2147483423; decide, _, _, rfl, rfl, _, _, rfl, rfl, .inl ⟨_, rfl, _, _, rfl, rfl, by show (0 : Int) < 2147483647; decide, ?_⟩⟩⟩
        exact ⟨_, _, rfl, Int.emod_nonneg _ (by decide), Int.emod_lt_of_pos _ (by decide), rfl⟩
      · rintro σ H3 ⟨m, v, rfl, m0, m1, rfl⟩
        intro d hd
        have s3 := same_new (o := .dK []) hd
        have eD3 := s3 _ _ eD
        refine ⟨_, rfl, D, rfl, ⟨_, SqL.of eD3⟩, fun C hC => ?_⟩
        refine lc_list (K := K) (a := D) (xs := (ms.map absI).map V.int) (fun i H4 => ∃ gs : List Int, H4 C = some (.lst (gs.map V.int)) ∧ (∀ n ∈ gs, 0 ≤ n) ∧ gs.length ≤ i ∧ Same (upd H3 d (.dK [])) H4) ⟨[], upd_same, (fun n hn => by cases hn), Nat.le_refl _, same_new hC⟩ (fun i H4 _ ⟨_, _, _, _, z⟩ => SqL.of (z _ _ eD3)) ?_ ?_
        · rintro i x H4 hx ⟨gs, eC, g0, gl, s4⟩
          obtain ⟨z, hz, rfl⟩ := int_at hx
          have hz0 : 0 ≤ z := by
            obtain ⟨y, _, rfl⟩ := List.mem_map.mp (List.mem_of_getElem? hz)
            exact absI_nn y
          have hi : i < ms.length := by have h9 := (List.getElem?_eq_some_iff.mp hz).1; rw [List.length_map] at h9; exact h9
          refine ⟨by rfl, _, rfl, _, _, rfl, rfl, ⟨by decide, by decide, by decide⟩, _, _, rfl, rfl, _, rfl, ?_⟩
          refine ite2 (fun _ => ?_) (fun _ => ?_)
          · refine ⟨_, rfl, _, eC, by rw [List.length_map]; exact small1000 (by omega), gs ++ [z], by rw [upd_same, List.map_append]; rfl, ?_, by rw [List.length_append]; show gs.length + 1 ≤ i + 1; omega, same_upd s4 hC⟩
            intro n hn
            rcases List.mem_append.mp hn with hn | hn
            · exact g0 n hn
            · rw [List.mem_singleton.mp hn]; exact hz0
          · exact ⟨gs, eC, g0, by omega, s4⟩
        · rintro H4 ⟨gs, eC, g0, gl, s4⟩
          rw [List.length_map, List.length_map] at gl
          refine ⟨C, _, rfl, SqL.of eC, fun g hg => ?_⟩
          have s5 := same_new (o := .lst (gs.map V.int).reverse) hg
          have ed5 := s5 _ _ (s4 _ _ upd_same)
          refine ⟨_, rfl, ed5, dl g m, rfl, by show 2 ≤ 15; decide, ?_⟩
          rw [merge_dl]
          have sA : Same H H3 := s1.trans s2
          have nd : H d = none := Same.free sA hd
          have ng : H g = none := Same.free sA (Same.free s3 (Same.free s4 hg))
          refine k d g _ (same_upd (((sA.trans s3).trans s4).trans s5) nd) nd ng ⟨m, gs.reverse, upd_same, ?_, ⟨m0, m1⟩, fun n hn => g0 n (List.mem_reverse.mp hn), by rw [List.length_reverse]; omega⟩
          rw [upd_ne (fun z => by rw [z, s4 _ _ upd_same] at hg; cases hg), upd_same, List.map_reverse]
end
end Ow
end
section
namespace Ow
open PySem L2 Own
/-! ### stacks -/
section
variable {P : Program} {w : World} {K : PySem.W.Frag} {mg : Str → Option Value} {base : Heap} {c : Cs} {gs ge : Addr} {S gsS geS glS : Addr}
structure TxtS (K : PySem.W.Frag) (mg : Str → Option Value) (S gsS geS glS : Addr) : Prop where
  own : OwnC K S gsS geS
  nR : NoAttr K S "rows"
  isS : PySem.W.kitOne K (.ref S) (.ref S) = some true
  nf : PySem.W.notFirst K S (.ref S) = true
  ln : PySem.W.findIn K (.ref S) "__len__" = some (some (.ref glS))
  lnf : PySem.W.isFn K (.ref glS) = true
  mStack : mg "Stack" = some (.ref S)
  isi : mg "isinstance" = none
  str_ : mg "str" = none
  tuple_ : mg "tuple" = none
  list_ : mg "list" = none
  enum_ : mg "enumerate" = none
  len_ : mg "len" = none
def fStack (a : Addr) : List (Str × V) := putF "rows" (.ref a) []
theorem fStack_rows (a : Addr) : (fStack a).lookup ("rows" : Str) = some (.ref a) := by unfold fStack; rw [lookup_putF, if_pos rfl]
/-- a stack with the rows rs stands at p -/
def StackAt (K : PySem.W.Frag) (c : Cs) (S : Addr) (H : Hp) (p : Addr) (rs : List R) : Prop :=
  ∃ (dx a : Addr) (ps : List Addr), H p = some (.ins S dx (fStack a)) ∧ SqT K H a (ps.map V.ref) ∧ RowsAt c H ps rs ∧ (∀ r ∈ rs, r.ok = true) ∧ rs.length ≤ 100
theorem StackAt.same {H H' : Hp} {p : Addr} {rs : List R} (s : Same H H') (h : StackAt K c S H p rs) : StackAt K c S H' p rs :=
  let ⟨dx, a, ps, e, q, r, o, l⟩ := h; ⟨dx, a, ps, s _ _ e, SqT.sm q s, r.same s, o, l⟩
/-! is_sequence -/
def spIsSeq (K : PySem.W.Frag) : Sp := fun vs H Q _ => ∃ (a : Addr) (xs : List V), vs = [.ref a] ∧ SqS K H a xs ∧ ∀ H', Same H H' → Q (.bl true) H'
theorem sc_isseq : FnScope ["value"] ["value"] (defScope s_is_sequence) := ⟨rfl, rfl, rfl, by decide +kernel, rfl, by decide +kernel, by decide +kernel⟩
theorem any_list : PySem.W.kitAny K (.type "list") [.type "list", .type "tuple"] = some true := kitAny_cons (b := true) (kit_ty (by decide +kernel)) (fun z => nomatch z) fun _ => rfl
theorem any_tup : PySem.W.kitAny K (.type "tuple") [.type "list", .type "tuple"] = some true :=
  kitAny_cons (b := false) (kit_ty (by decide +kernel)) (fun _ => kitAny_cons (b := true) (kit_ty (by decide +kernel)) (fun z => nomatch z) fun _ => rfl) fun z => nomatch z
theorem ok_is_sequence {f : Addr} {fd : FuncData} (F : Fun K "is_sequence" "is_sequence" s_is_sequence f fd) (T : TxtS K mg S gsS geS glS) : FnOk P w K mg base CX0 1 f fd ["value"] (spIsSeq K) := by
  refine F.ok sc_isseq (fun vs H Q E h => ?_) (fun cdv A outer s H vs Q E hr h => ?_)
  · obtain ⟨a, xs, rfl, _⟩ := h
    rfl
  · obtain ⟨a, xs, rfl, hq, k⟩ := h
    refine ⟨_, pss_one (ps_ret (pe_callB call_isiT (by rfl) T.isi (by decide +kernel) (pa_cons (pv 0) (pa_cons (pe_tup (pa_cons (pe_bltn (by rfl) T.list_ (by decide +kernel) (v := .ty "list") rfl) (pa_cons (pe_bltn (by rfl) T.tuple_ (by decide +kernel) (v := .ty "tuple") rfl) pa_nil))) pa_nil)))), ?_⟩
    refine ⟨_, rfl, by show 2 ≤ sizeLine; decide, fun t ht => ?_⟩
    have sm : Same H (upd H t (.tup [.ty "list", .ty "tuple"])) := same_new ht
    have go : ∀ T : String, TyX K (upd H t (.tup [.ty "list", .ty "tuple"])) (.ref a) (.type T) → PySem.W.kitAny K (.type T) [.type "list", .type "tuple"] = some true → rIsiT K [.ref a, .ref t] (upd H t (.tup [.ty "list", .ty "tuple"])) Q := fun T ty hk =>
      ⟨_, t, _, _, _, true, rfl, upd_same, .cons (.ty _) (.cons (.ty _) .nil), ty, hk, k _ sm⟩
    rcases hq.sm sm with q | q
    · exact go _ (tyL q) any_list
    · exact go _ (tyT q) any_tup
/-! rows_of -/
def spRowsOf (K : PySem.W.Frag) (c : Cs) : Sp := fun vs H Q _ => ∃ (a : Addr) (ps : List Addr) (rs : List R), vs = [.ref a] ∧ SqS K H a (ps.map V.ref) ∧ RowsAt c H ps rs ∧ ∀ t H', Same H H' → SqT K H' t (ps.map V.ref) → Q (.ref t) H'
abbrev nRowsOf : List Str := ["value", "at", "row"]
theorem sc_rowsof : FnScope nRowsOf ["value"] (defScope s_rows_of) := ⟨rfl, rfl, rfl, by decide +kernel, rfl, by decide +kernel, by decide +kernel⟩
theorem ref_at {ps : List Addr} {i : Nat} {x : V} (h : (ps.map V.ref)[i]? = some x) : ∃ p, ps[i]? = some p ∧ x = V.ref p := by
  rw [List.getElem?_map] at h
  cases e : ps[i]? with
  | none => rw [e] at h; cases h
  | some p => rw [e] at h; exact ⟨p, rfl, (Option.some.inj h).symm⟩
theorem ok_rows_of {f fI : Addr} {fd dI : FuncData} (F : Fun K "rows_of" "rows_of" s_rows_of f fd) (T : Txt' K mg c gs ge) (TS : TxtS K mg S gsS geS glS) (FI : Fun K "is_sequence" "is_sequence" s_is_sequence fI dI) (bI : Binds K dI ["value"] []) (mI : mg "is_sequence" = some (.ref fI)) :
    FnOk P w K mg base CX0 2 f fd ["value"] (spRowsOf K c) := by
  have GI : FnOk P w K mg base CX0 1 fI dI ["value"] (spIsSeq K) := ok_is_sequence FI TS
  refine F.ok sc_rowsof (fun vs H Q E h => ?_) (fun cdv A outer s H vs Q E hr h => ?_)
  · obtain ⟨a, ps, rs, rfl, _⟩ := h
    rfl
  · obtain ⟨a, ps, rs, rfl, hq, hR, k⟩ := h
    refine ⟨_, pss_cons (ps_if (pt_not (pt_val (pe_call GI hr (by rfl) mI FI.kp bI .nil pass0 (pa_cons (pv 0) pa_nil)))) pss_never pss_nil)
      (pss_cons (ps_for PassesOwn.never rfl (pi_enumS (by rfl) TS.enum_ (pa_cons (pv 0) pa_nil)) (pg_tup rfl (pgs_cons (pg_name (i := 1) sc_rowsof.nd rfl (Or.inl rfl)) (pgs_cons (pg_name (i := 2) sc_rowsof.nd rfl (Or.inl rfl)) pgs_nil)))
        (pss_one (ps_if (pt_not (pt_val (pe_callB call_isi (by rfl) TS.isi (by decide +kernel) (pa_cons (pv 2) (pa_cons (pe_glob (v := .ref c.row) (by rfl) T.mRow rfl) pa_nil))))) pss_never pss_nil)))
      (pss_one (ps_ret (pe_tupleOf (by rfl) TS.tuple_ (pv 0))))), ?_⟩
    refine ⟨_, rfl, a, _, rfl, hq, fun H1 s1 => ⟨true, rfl, iteF ?_⟩⟩
    have fin : ∀ H2, Same H1 H2 → ∀ x y : Option V, tRet (tThen (tVar 0) (kTup K)) { nx := fun _ H' => Q .non H', rt := Q } [some (.ref a), x, y] H2 := fun H2 s2 x y => by
      refine ⟨_, rfl, ?_⟩
      rcases hq.sm (s1.trans s2) with q | q
      · exact .inl ⟨a, _, rfl, q, fun t ht => k t _ ((s1.trans s2).trans (same_new ht)) (SqT.of upd_same)⟩
      · exact .inr ⟨a, _, rfl, q, k a _ (s1.trans s2) q⟩
    refine ⟨_, rfl, a, ps.map V.ref, rfl, ?_⟩
    rcases hq.sm s1 with q | q
    · refine .inl ⟨q, for_enumL (K := K) (a := a) (xs := ps.map V.ref) (fun i τ G => (∃ x y, τ = [some (.ref a), x, y]) ∧ Same H1 G) ⟨⟨none, none, rfl⟩, Same.refl _⟩ (fun i τ G _ z => z.2.seq q) ?_ ?_⟩
      · rintro i x τ G U hx ⟨⟨x1, y1, rfl⟩, s2⟩ hU
        obtain ⟨p, hp, rfl⟩ := ref_at hx
        obtain ⟨r, hr', ⟨dx, ep⟩⟩ := pair_get hR hp
        have s3 : Same H1 (upd G U (.tup [.int (i : Nat), .ref p])) := s2.trans (same_new hU)
        refine ⟨U, _, rfl, SqT.of upd_same, rfl, _, _, rfl, _, _, rfl, rfl, ?_⟩
        refine ⟨_, rfl, _, _, _, _, true, rfl, .own _, (T.own r).ty ((s1.trans s3) _ _ ep), T.isR r, true, rfl, iteF ?_⟩
        exact ⟨⟨_, _, rfl⟩, s3⟩
      · rintro τ G ⟨⟨x, y, rfl⟩, s2⟩
        exact fin G s2 x y
    · refine .inr ⟨q, for_enumT (K := K) (a := a) (xs := ps.map V.ref) (fun i τ G => (∃ x y, τ = [some (.ref a), x, y]) ∧ Same H1 G) ⟨⟨none, none, rfl⟩, Same.refl _⟩ (fun i τ G _ z => SqT.sm q z.2) ?_ ?_⟩
      · rintro i x τ G U hx ⟨⟨x1, y1, rfl⟩, s2⟩ hU
        obtain ⟨p, hp, rfl⟩ := ref_at hx
        obtain ⟨r, hr', ⟨dx, ep⟩⟩ := pair_get hR hp
        have s3 : Same H1 (upd G U (.tup [.int (i : Nat), .ref p])) := s2.trans (same_new hU)
        refine ⟨U, _, rfl, SqT.of upd_same, rfl, _, _, rfl, _, _, rfl, rfl, ?_⟩
        refine ⟨_, rfl, _, _, _, _, true, rfl, .own _, (T.own r).ty ((s1.trans s3) _ _ ep), T.isR r, true, rfl, iteF ?_⟩
        exact ⟨⟨_, _, rfl⟩, s3⟩
      · rintro τ G ⟨⟨x, y, rfl⟩, s2⟩
        exact fin G s2 x y
end
end Ow
end
section
namespace Ow
open PySem L2 Own
section
variable {P : Program} {w : World} {K : PySem.W.Frag} {mg : Str → Option Value} {base : Heap} {c : Cs} {gs ge : Addr} {S gsS geS glS : Addr}
/-! ### rows_in -/
def rowTexts (rs : List R) : List Str := rs.map R.text
def spRowsIn (K : PySem.W.Frag) (c : Cs) : Sp := fun vs H Q _ => ∃ (l : Addr) (rs : List R), vs = [.ref l] ∧ SqL K H l ((rowTexts rs).map V.str) ∧ (∀ r ∈ rs, r.ok = true) ∧ rs.length ≤ 100 ∧
  ∀ (q : Addr) (ps : List Addr) (H' : Hp), Same H H' → H q = none → H' q = some (.lst (ps.map V.ref)) → RowsAt c H' ps rs → Q (.ref q) H'
abbrev nRowsIn : List Str := ["lines", "rows", "at", "line"]
theorem sc_rowsin : FnScope nRowsIn ["lines"] (defScope s_rows_in) := ⟨rfl, rfl, rfl, by decide +kernel, rfl, by decide +kernel, by decide +kernel⟩
theorem txt_at {rs : List R} {i : Nat} {x : V} (h : ((rowTexts rs).map V.str)[i]? = some x) : ∃ r, rs[i]? = some r ∧ x = V.str r.text := by
  unfold rowTexts at h
  rw [List.map_map, List.getElem?_map] at h
  cases e : rs[i]? with
  | none => rw [e] at h; cases h
  | some r => rw [e] at h; exact ⟨r, rfl, (Option.some.inj h).symm⟩
/-- Row.read, as it is called -/
structure ReadOk (P : Program) (w : World) (K : PySem.W.Frag) (mg : Str → Option Value) (base : Heap) (c : Cs) (pR fR : Addr) (dR : FuncData) (mc : Value) : Prop where
  g : FnOk P w K mg base CX0 6 fR dR ["cls", "text"] (spRead c)
  b : Binds K dR ["cls", "text"] []
  cr : ClX.CRead K c.row mc
  cm : ClX.CMet K c.row mc "read" pR fR
theorem ok_rows_in {f pR fR : Addr} {fd dR : FuncData} {mc : Value} (F : Fun K "rows_in" "rows_in" s_rows_in f fd) (T : Txt' K mg c gs ge) (TS : TxtS K mg S gsS geS glS) (GR : ReadOk P w K mg base c pR fR dR mc) : FnOk P w K mg base CX0 7 f fd ["lines"] (spRowsIn K c) := by
  have FR := GR.g.raw GR.b .nil
  refine F.ok sc_rowsin (fun vs H Q E h => ?_) (fun cdv A outer s H vs Q E hr h => ?_)
  · obtain ⟨l, rs, rfl, _⟩ := h
    rfl
  · obtain ⟨l, rs, rfl, hl, hok, hz, k⟩ := h
    refine ⟨_, pss_cons (ps_set (i := 1) sc_rowsin.nd rfl (Or.inl rfl) (pe_lst pa_nil))
      (pss_cons (ps_for PassesOwn.never rfl (pi_enum (by rfl) TS.enum_ (pa_cons (pv 0) pa_nil)) (pg_tup rfl (pgs_cons (pg_name (i := 2) sc_rowsin.nd rfl (Or.inl rfl)) (pgs_cons (pg_name (i := 3) sc_rowsin.nd rfl (Or.inl rfl)) pgs_nil)))
        (pss_one (ps_try_thru0 (pss_one (ps_expr (pe_bm PySem.F.plainAttrs_list PySem.F.slot_list_append PySem.F.type_list_append mt_append (pv 1)
          (pa_cons (ClX.pe_cmeth (pe_glob (v := .ref c.row) (by rfl) T.mRow rfl) GR.cr GR.cm FR hr pass0 (pa_cons (pv 3) pa_nil)) pa_nil)))))))
      (pss_one (ps_ret (pv 1)))), ?_⟩
    refine ⟨by show 0 ≤ sizeLine; decide, fun D hD => ?_⟩
    have nl : l ≠ D ∨ True := .inr trivial
    have s0 : Same H (upd H D (.lst [])) := same_new hD
    refine ⟨_, rfl, l, _, rfl, s0.seq hl, ?_⟩
    refine for_enumL (K := K) (a := l) (xs := (rowTexts rs).map V.str) (fun i τ G => (∃ x y, τ = [some (.ref l), some (.ref D), x, y]) ∧ Fill c H D (rs.take i) G) ⟨⟨none, none, rfl⟩, Fill.nil hD⟩ (fun i τ G _ z => ?_) ?_ ?_
    · obtain ⟨_, ps, _, _, s⟩ := z
      exact s.seq hl
    · rintro i x τ G U hx ⟨⟨x1, y1, rfl⟩, FG⟩ hU
      obtain ⟨r, hr', rfl⟩ := txt_at hx
      have rok : r.ok = true := hok r (List.mem_of_getElem? hr')
      have s1 : Same G (upd G U (.tup [.int (i : Nat), .str r.text])) := same_new hU
      have FG1 := FG.same s1
      refine ⟨U, _, rfl, SqT.of upd_same, rfl, _, _, rfl, _, _, rfl, rfl, ?_⟩
      obtain ⟨ps, eD, hRows, sH⟩ := id FG1
      refine ⟨_, rfl, .inl ⟨rfl, _, SqL.of eD⟩, rfl, _, rfl, _, r, rfl, rok, fun p H3 s3 hp => ?_⟩
      obtain ⟨acc, e1, e2, e3⟩ := FG1.step hD s3 hp (by rw [List.length_take]; omega)
      refine ⟨D, acc, .ref p, rfl, rfl, e1, e2, ⟨_, _, rfl⟩, ?_⟩
      rw [take_next hr']
      exact e3
    · rintro τ G ⟨⟨x, y, rfl⟩, FG⟩
      have el : ((rowTexts rs).map V.str).length = rs.length := by unfold rowTexts; rw [List.length_map, List.length_map]
      rw [el, List.take_length] at FG
      obtain ⟨ps, eD, hRows, sH⟩ := FG
      exact ⟨_, rfl, k D ps G sH hD eD hRows⟩
/-! ### Stack.__init__ -/
def spInitS (K : PySem.W.Frag) (c : Cs) (S : Addr) : Sp := fun vs H Q _ => ∃ (p dx a : Addr) (ps : List Addr) (rs : List R), vs = [.ref p, .ref a] ∧ H p = some (.ins S dx []) ∧ SqS K H a (ps.map V.ref) ∧ RowsAt c H ps rs ∧ (∀ r ∈ rs, r.ok = true) ∧ rs.length ≤ 100 ∧
  ∀ H' : Hp, StackAt K c S H' p rs → (∀ b o, H b = some o → b ≠ p → H' b = some o) → Q .non H'
theorem sc_initS : FnScope ["self", "rows"] ["self", "rows"] (defScope s_Stack_init) := ⟨rfl, rfl, rfl, by decide +kernel, rfl, by decide +kernel, by decide +kernel⟩
/-- a field set at p: what is no instance at p stays -/
theorem SqT.setF {H : Hp} {p C dx a : Addr} {fs fs' : List (Str × V)} {xs : List V} (hp : H p = some (.ins C dx fs)) (h : SqT K H a xs) : SqT K (upd H p (.ins C dx fs')) a xs := by
  rcases h with (h | ⟨o, h⟩) | h
  · exact .inl (.inl (by rw [upd_ne (ne_of h hp (by intro z; cases z))]; exact h))
  · exact .inl (.inr ⟨o, by rw [upd_ne (ne_of h hp (by intro z; cases z))]; exact h⟩)
  · exact .inr h
theorem RowsAt.keepBut {H H' : Hp} {p C dx : Addr} {fs : List (Str × V)} {ps : List Addr} {rs : List R} (hp : H p = some (.ins C dx fs)) (nc : ∀ r, c.of r ≠ C) (k : ∀ b o, H b = some o → b ≠ p → H' b = some o) (h : RowsAt c H ps rs) : RowsAt c H' ps rs :=
  Paired.mapP h fun q r ⟨dq, eq⟩ => ⟨dq, k _ _ eq fun z => by
    rw [z, hp] at eq
    cases eq
    exact nc r rfl⟩
theorem ok_initS {f fR : Addr} {fd dR : FuncData} {dvs : List V} (F : FunD K "__init__" "Stack.__init__" (defArgs s_Stack_init) (defBody s_Stack_init) (defScope s_Stack_init) dvs [] f fd) (TS : TxtS K mg S gsS geS glS) (nc : ∀ r, c.of r ≠ S)
    (GR : FnOk P w K mg base CX0 2 fR dR ["value"] (spRowsOf K c)) (bR : Binds K dR ["value"] []) (mR : mg "rows_of" = some (.ref fR)) (kR : PySem.W.keepIn K (.ref fR) = true) :
    FnOk P w K mg base CX0 3 f fd ["self", "rows"] (spInitS K c S) := by
  refine F.ok sc_initS (fun vs H Q E h => ?_) (fun cdv A outer s H vs Q E hr h => ?_)
  · obtain ⟨p, dx, a, ps, rs, rfl, _⟩ := h
    rfl
  · obtain ⟨p, dx, a, ps, rs, rfl, hp, hq, hR, hok, hz, k⟩ := h
    refine ⟨_, pss_one (ps_fld (pv 0) (pe_call GR hr (by rfl) mR kR bR .nil pass0 (pa_cons (pv 1) pa_nil)) rfl), ?_⟩
    refine ⟨_, rfl, a, ps, rs, rfl, hq, hR, fun t H1 s1 ht => ?_⟩
    have hp1 := s1 _ _ hp
    refine ⟨_, rfl, p, S, dx, _, rfl, hp1, TS.own.cl, TS.nR, by show 0 < 1000; decide, ?_⟩
    refine k _ ⟨dx, t, ps, upd_same, SqT.setF hp1 ht, (hR.same s1).keepBut hp1 nc (fun b o e hb => by rw [upd_ne hb]; exact e), hok, hz⟩ fun b o e hb => by rw [upd_ne hb]; exact s1 _ _ e
end
end Ow
end
section
namespace Ow
open PySem L2 Own
open TL
section
/-! ### the texts of stacks -/
def sText (rs : List R) : Str := Txt.join "\n" (rowTexts rs)
theorem joinL_len (s : Nat) : ∀ ts : List (List Nat), (joinL [s] ts).length ≤ (ts.map (·.length)).sum + ts.length
  | [] => Nat.le_refl _
  | [p] => by simp [joinL]
  | p :: q :: r => by
    have ih := joinL_len s (q :: r)
    show (p ++ ([s] ++ joinL [s] (q :: r))).length ≤ _
    rw [List.length_append, List.length_append, List.map_cons, List.sum_cons, List.length_cons, List.length_cons, List.length_nil]
    have e : (p :: q :: r).length = (q :: r).length + 1 := rfl
    omega
theorem nl_tl : tl "\n" = [10] := by decide +kernel
theorem sum_texts : ∀ rs : List R, (∀ r ∈ rs, r.ok = true) → ((rowTexts rs).map (·.length)).sum ≤ rs.length * 100
  | [], _ => Nat.le_refl _
  | r :: t, h => by
    have ih := sum_texts t fun q hq => h q (List.mem_cons_of_mem _ hq)
    have h1 := (text_small (h r (List.mem_cons_self ..))).2
    unfold rowTexts at ih ⊢
    rw [List.map_cons, List.map_cons, List.sum_cons, List.length_cons]
    omega
theorem rowTexts_len (rs : List R) : (rowTexts rs).length = rs.length := List.length_map ..
theorem sText_len {rs : List R} (h : ∀ r ∈ rs, r.ok = true) : (sText rs).length ≤ rs.length * 101 := by
  have h1 : (tl (sText rs)).length ≤ (((rowTexts rs).map tl).map (·.length)).sum + ((rowTexts rs).map tl).length := by
    unfold sText
    rw [join_eq, tl_join, nl_tl]
    exact joinL_len 10 _
  have h2 : ((rowTexts rs).map tl).map (·.length) = (rowTexts rs).map (·.length) := by
    rw [List.map_map]; rfl
  rw [h2, List.length_map, rowTexts_len] at h1
  have h3 := sum_texts rs h
  have h4 : (tl (sText rs)).length = (sText rs).length := rfl
  omega
theorem text_nl {r : R} (h : r.ok = true) : 10 ∉ tl r.text := by
  have key : ∀ r ∈ allRows, 10 ∉ tl r.text := by decide +kernel
  exact key r (mem_all h)
theorem text_ne {r : R} (h : r.ok = true) : tl r.text ≠ [] := by
  have key : ∀ r ∈ allRows, tl r.text ≠ [] := by decide +kernel
  exact key r (mem_all h)
theorem sText_split {rs : List R} (h : ∀ r ∈ rs, r.ok = true) (hn : rs ≠ []) : Txt.split (sText rs) "\n" = rowTexts rs := by
  refine split_join nl_tl (by decide +kernel) (fun e => hn (List.map_eq_nil_iff.mp e)) fun p hp => ?_
  obtain ⟨r, hr, rfl⟩ := List.mem_map.mp hp
  exact text_nl (h r hr)
theorem sText_nil {rs : List R} (h : ∀ r ∈ rs, r.ok = true) : sText rs = "" ↔ rs = [] := by
  constructor
  · intro e
    cases rs with
    | nil => rfl
    | cons r t =>
      have h1 := text_ne (h r (List.mem_cons_self ..))
      have h2 : tl (sText (r :: t)) = [] := by rw [e]; decide +kernel
      unfold sText at h2
      rw [join_eq, tl_join] at h2
      cases t with
      | nil => exact absurd h2 h1
      | cons q u =>
        have h3 : tl r.text ++ (tl "\n" ++ joinL (tl "\n") ((q :: u).map R.text |>.map tl)) = [] := h2
        exact absurd (List.append_eq_nil_iff.mp h3).1 h1
  · rintro rfl; rfl
theorem rowTexts_inj : ∀ {rs ss : List R}, (∀ r ∈ rs, r.ok = true) → (∀ r ∈ ss, r.ok = true) → rowTexts rs = rowTexts ss → rs = ss
  | [], [], _, _, _ => rfl
  | [], _ :: _, _, _, e => by cases e
  | _ :: _, [], _, _, e => by cases e
  | r :: t, s :: u, h1, h2, e => by
    unfold rowTexts at e
    rw [List.map_cons, List.map_cons] at e
    injection e with e1 e2
    rw [text_inj (h1 r (List.mem_cons_self ..)) (h2 s (List.mem_cons_self ..)) e1, rowTexts_inj (fun q hq => h1 q (List.mem_cons_of_mem _ hq)) (fun q hq => h2 q (List.mem_cons_of_mem _ hq)) e2]
theorem sText_inj {rs ss : List R} (h1 : ∀ r ∈ rs, r.ok = true) (h2 : ∀ r ∈ ss, r.ok = true) (e : sText rs = sText ss) : rs = ss := by
  by_cases hr : rs = []
  · rw [hr]
    exact ((sText_nil h2).mp (by rw [← e]; exact (sText_nil h1).mpr hr)).symm
  · by_cases hs : ss = []
    · exact absurd ((sText_nil h1).mp (by rw [e]; exact (sText_nil h2).mpr hs)) hr
    · exact rowTexts_inj h1 h2 (by rw [← sText_split h1 hr, ← sText_split h2 hs, e])
theorem sText_eq {rs ss : List R} (h1 : ∀ r ∈ rs, r.ok = true) (h2 : ∀ r ∈ ss, r.ok = true) : decide (V.str (sText rs) = V.str (sText ss)) = decide (rs = ss) := by
  by_cases e : rs = ss
  · rw [e, decide_eq_true rfl, decide_eq_true rfl]
  · rw [decide_eq_false e]
    exact decide_eq_false fun z => e (sText_inj h1 h2 (V.str.inj z))
end
section
variable {P : Program} {w : World} {K : PySem.W.Frag} {mg : Str → Option Value} {base : Heap} {c : Cs} {gs ge : Addr} {S gsS geS glS : Addr}
/-! ### __str__, __eq__, __len__ -/
def spStrS (K : PySem.W.Frag) (c : Cs) (S : Addr) : Sp := fun vs H Q _ => ∃ (p : Addr) (rs : List R), vs = [.ref p] ∧ StackAt K c S H p rs ∧ ∀ H', Same H H' → Q (.str (sText rs)) H'
theorem sc_strS : FnScope ["self", "row"] ["self"] (defScope s_Stack_str) := ⟨rfl, rfl, rfl, by decide +kernel, rfl, by decide +kernel, by decide +kernel⟩
theorem ok_strS {f : Addr} {fd ds : FuncData} (F : Fun K "__str__" "Stack.__str__" s_Stack_str f fd) (T : Txt' K mg c gs ge) (TS : TxtS K mg S gsS geS glS) (GS : FnOk P w K mg base CX0 2 gs ds ["self"] (spStr c)) (bS : Binds K ds ["self"] []) : FnOk P w K mg base CX0 5 f fd ["self"] (spStrS K c S) := by
  have RS := GS.raw bS .nil
  refine F.ok sc_strS (fun vs H Q E h => ?_) (fun cdv A outer s H vs Q E hr h => ?_)
  · obtain ⟨p, rs, rfl, _⟩ := h
    rfl
  · obtain ⟨p, rs, rfl, ⟨dx, a, ps, hp, hq, hR, hok, hz⟩, k⟩ := h
    refine ⟨_, pss_one (ps_ret (pe_join pe_str (pe_lc (own := [("row", 1)]) (g := gName 1) (tt := tYes) rfl sc_strS.nd (pi_tup (pe_fld (pv 0) rfl))
        (blkOk_by (N := ["self", "row"]) (sc := defScope s_Stack_str) (by decide +kernel)) (fun _ _ _ _ _ => pg_name (i := 1) sc_strS.nd rfl (Or.inl rfl)) (fun _ _ _ _ _ => pts_nil)
        (fun _ _ _ _ _ => pe_callTy (T := "str") (r := rStrOwn K gs (fun vs H Q E => spStr c (vs ++ []) H Q E) E0) (call_strOwn RS hr pass0) (by rfl) TS.str_ (by decide +kernel) (pa_cons (pv 1) pa_nil))))), ?_⟩
    refine ⟨⟨_, rfl⟩, _, rfl, p, S, dx, _, _, rfl, hp, TS.own.cl, TS.nR, fStack_rows a, a, rfl, ⟨_, hq⟩, fun D hD => ?_⟩
    have hlen := hR.len
    refine lc_tup (K := K) (a := a) (xs := ps.map V.ref) (fun i H2 => H2 D = some (.lst ((rowTexts (rs.take i)).map V.str)) ∧ Same H H2) ⟨upd_same, same_new hD⟩ (fun i H2 _ z => SqT.sm hq z.2) ?_ ?_
    · rintro i x H2 hx ⟨eD, s2⟩
      obtain ⟨q, hq', rfl⟩ := ref_at hx
      obtain ⟨r, hr', ⟨dq, eq⟩⟩ := pair_get hR hq'
      have rok : r.ok = true := hok r (List.mem_of_getElem? hr')
      refine ⟨by rfl, _, rfl, q, c.of r, dq, _, ge, rfl, s2 _ _ eq, T.own r, q, r, rfl, rok, ⟨dq, s2 _ _ eq⟩, fun H3 s3 => ⟨_, rfl, ?_⟩⟩
      refine ⟨_, s3 _ _ eD, ?_, ?_, same_upd (s2.trans s3) hD⟩
      · rw [List.length_map, rowTexts_len, List.length_take]; exact small1000 (by omega)
      · rw [upd_same, take_next hr']
        unfold rowTexts
        rw [List.map_append, List.map_append]
        rfl
    · rintro H2 ⟨eD, s2⟩
      rw [List.length_map, hlen, List.take_length] at eD
      refine ⟨_, D, rowTexts rs, rfl, rfl, .inl (SqL.of eD), ?_, k _ s2⟩
      have h3 := sum_texts rs hok
      have h4 : Str.length "\n" = 1 := by decide +kernel
      rw [rowTexts_len, h4]
      omega
def spEqS (K : PySem.W.Frag) (c : Cs) (S : Addr) : Sp := fun vs H Q _ => ∃ (p : Addr) (rs : List R) (y : V), vs = [.ref p, y] ∧ StackAt K c S H p rs ∧
  ((∃ q ss, y = .ref q ∧ StackAt K c S H q ss ∧ ∀ H', Same H H' → Q (.bl (decide (rs = ss))) H') ∨ ((∃ t, TyX K H y t ∧ PySem.W.kitOne K t (.ref S) = some false) ∧ Q (.bl false) H))
theorem sc_eqS : FnScope ["self", "other"] ["self", "other"] (defScope s_Stack_eq) := ⟨rfl, rfl, rfl, by decide +kernel, rfl, by decide +kernel, by decide +kernel⟩
theorem ok_eqS {f : Addr} {fd ds : FuncData} (F : Fun K "__eq__" "Stack.__eq__" s_Stack_eq f fd) (TS : TxtS K mg S gsS geS glS) (GS : FnOk P w K mg base CX0 5 gsS ds ["self"] (spStrS K c S)) (bS : Binds K ds ["self"] []) : FnOk P w K mg base CX0 8 f fd ["self", "other"] (spEqS K c S) := by
  have RS := GS.raw bS .nil
  refine F.ok sc_eqS (fun vs H Q E h => ?_) (fun cdv A outer s H vs Q E hr h => ?_)
  · obtain ⟨p, rs, y, rfl, _⟩ := h
    rfl
  · obtain ⟨p, rs, y, rfl, hS, h⟩ := h
    obtain ⟨dx, a, ps, hp, _, _, hok, _⟩ := id hS
    refine ⟨_, pss_one (ps_ret (pe_and (pe_callB call_isi (by rfl) TS.isi (by decide +kernel) (pa_cons (pv 1) (pa_cons (pe_glob (v := .ref S) (by rfl) TS.mStack rfl) pa_nil)))
      (pe_one (pe_cmpR op_eq (pe_callTy (call_strOwn RS hr pass0) (by rfl) TS.str_ (by decide +kernel) (pa_cons (pv 0) pa_nil)) (pe_callTy (call_strOwn RS hr pass0) (by rfl) TS.str_ (by decide +kernel) (pa_cons (pv 1) pa_nil)) (nomark _))))), ?_⟩
    rcases h with ⟨q, ss, rfl, hS2, k⟩ | ⟨⟨t, ty, hk⟩, k⟩
    · obtain ⟨dy, b, qs, hq, _, _, sok, _⟩ := id hS2
      refine ⟨_, rfl, _, _, _, _, true, rfl, .own _, TS.own.ty hq, TS.isS, true, rfl, iteT ?_⟩
      refine ⟨_, rfl, p, S, dx, _, geS, rfl, hp, TS.own, p, rs, rfl, hS, fun H1 s1 => ⟨_, rfl, ?_⟩⟩
      refine ⟨_, rfl, q, S, dy, _, geS, rfl, s1 _ _ hq, TS.own, q, ss, rfl, hS2.same s1, fun H2 s2 => ⟨_, rfl, rfl, ?_⟩⟩
      show Q (.bl (decide (V.str (sText rs) = V.str (sText ss)))) H2
      rw [sText_eq hok sok]
      exact k _ (s1.trans s2)
    · exact ⟨_, rfl, _, _, _, _, false, rfl, .own _, ty, hk, false, rfl, iteF k⟩
def spLenS (K : PySem.W.Frag) (c : Cs) (S : Addr) : Sp := fun vs H Q _ => ∃ (p : Addr) (rs : List R), vs = [.ref p] ∧ StackAt K c S H p rs ∧ Q (.int rs.length) H
theorem sc_lenS : FnScope ["self"] ["self"] (defScope s_Stack_len) := ⟨rfl, rfl, rfl, by decide +kernel, rfl, by decide +kernel, by decide +kernel⟩
theorem ok_lenS {f : Addr} {fd : FuncData} (F : Fun K "__len__" "Stack.__len__" s_Stack_len f fd) (TS : TxtS K mg S gsS geS glS) : FnOk P w K mg base CX0 1 f fd ["self"] (spLenS K c S) := by
  refine F.ok sc_lenS (fun vs H Q E h => ?_) (fun cdv A outer s H vs Q E hr h => ?_)
  · obtain ⟨p, rs, rfl, _⟩ := h
    rfl
  · obtain ⟨p, rs, rfl, ⟨dx, a, ps, hp, hq, hR, hok, hz⟩, k⟩ := h
    refine ⟨_, pss_one (ps_ret (pe_callB call_len_seq (by rfl) TS.len_ PySem.boot_len (pa_cons (pe_fld (pv 0) rfl) pa_nil))), ?_⟩
    refine ⟨_, rfl, p, S, dx, _, _, rfl, hp, TS.own.cl, TS.nR, fStack_rows a, a, _, rfl, .inr hq, ?_⟩
    show Q (.int ((ps.map V.ref).length : Nat)) H
    rw [List.length_map, hR.len]
    exact k
/-! ### Stack.read -/
def spReadS (K : PySem.W.Frag) (c : Cs) (S : Addr) : Sp := fun vs H Q _ => ∃ rs : List R, vs = [.ref S, .str (sText rs)] ∧ (∀ r ∈ rs, r.ok = true) ∧ rs.length ≤ 100 ∧ ∀ (p : Addr) (H' : Hp), Same H H' → H p = none → StackAt K c S H' p rs → Q (.ref p) H'
theorem sc_readS : FnScope ["cls", "text"] ["cls", "text"] (defScope s_Stack_read) := ⟨rfl, rfl, rfl, by decide +kernel, rfl, by decide +kernel, by decide +kernel⟩
/-- Stack(..), as it is called -/
structure MakeS (P : Program) (w : World) (K : PySem.W.Frag) (mg : Str → Option Value) (base : Heap) (c : Cs) (S fI d0 : Addr) (dI : FuncData) : Prop where
  mkr : Mk K S fI
  g : FnOk P w K mg base CX0 3 fI dI ["self", "rows"] (spInitS K c S)
  b : Binds K dI ["self", "rows"] []
  b0 : Binds K dI ["self", "rows"] [.ref d0]
  k0 : KTup K d0 []
theorem made_stack {H : Hp} {a : Addr} {ps : List Addr} {rs : List R} {Q : VK} (hq : SqS K H a (ps.map V.ref)) (hR : RowsAt c H ps rs) (hok : ∀ r ∈ rs, r.ok = true) (hz : rs.length ≤ 100)
    (k : ∀ (p : Addr) (H' : Hp), Same H H' → H p = none → StackAt K c S H' p rs → Q (.ref p) H') :
    ∀ x dx, H x = none → H dx = none → dx ≠ x → spInitS K c S [.ref x, .ref a] (upd (upd H dx (.own x)) x (.ins S dx [])) (fun v H2 => v = .non ∧ Q (.ref x) H2) E0 := by
  intro x dx nx nd ne
  have s1 : Same H (upd (upd H dx (.own x)) x (.ins S dx [])) := same_upd (same_new nd) nx
  exact ⟨x, dx, a, ps, rs, rfl, upd_same, hq.sm s1, hR.same s1, hok, hz, fun H' h' k' => ⟨rfl, k _ _ (made_same nx nd k') nx h'⟩⟩
theorem ok_readS {f fI d0 fN : Addr} {fd dI dN : FuncData} (F : Fun K "read" "Stack.read" s_Stack_read f fd) (M : MakeS P w K mg base c S fI d0 dI) (GN : FnOk P w K mg base CX0 7 fN dN ["lines"] (spRowsIn K c)) (bN : Binds K dN ["lines"] []) (mN : mg "rows_in" = some (.ref fN)) (kN : PySem.W.keepIn K (.ref fN) = true) :
    FnOk P w K mg base CX0 8 f fd ["cls", "text"] (spReadS K c S) := by
  refine F.ok sc_readS (fun vs H Q E h => ?_) (fun cdv A outer s H vs Q E hr h => ?_)
  · obtain ⟨rs, rfl, _⟩ := h
    rfl
  · obtain ⟨rs, rfl, hok, hz, k⟩ := h
    have hr4 := hr.mono (show 3 + 1 ≤ 7 by decide)
    refine ⟨_, pss_cons (ps_if (pt_cmpR op_eq (pv 1) pe_str (nomark _)) (pss_one (ps_ret (pe_makeL0 (i := 0) M.mkr M.g hr4 rfl (Or.inl rfl) M.b0 (.cons (show RelV (.ref d0) (.ref d0) from rfl) .nil) pass0))) pss_nil)
      (pss_one (ps_ret (pe_makeL (i := 0) M.mkr M.g hr4 rfl (Or.inl rfl) M.b .nil pass0 (pa_cons (pe_call GN hr (by rfl) mN kN bN .nil pass0 (pa_cons (pe_split (pv 1) pe_str) pa_nil)) pa_nil)))), ?_⟩
    refine ⟨_, rfl, rfl, _, rfl, ?_⟩
    by_cases e : rs = []
    · subst e
      have e1 : decide (V.str (sText []) = V.str "") = true := by rfl
      rw [e1]
      refine iteT ⟨rfl, ?_⟩
      exact made_stack (c := c) (S := S) (ps := []) (rs := []) (.inr (M.k0 H)) .nil (fun r h => nomatch h) (Nat.zero_le _) k
    · have e1 : decide (V.str (sText rs) = V.str "") = false := decide_eq_false fun z => e ((sText_nil hok).mp (V.str.inj z))
      rw [e1]
      refine iteF ?_
      refine ⟨rfl, ?_⟩
      have hl := sText_len hok
      refine ⟨_, rfl, ⟨_, rfl⟩, _, _, rfl, rfl, by decide +kernel, ?_, fun l hl' => ?_⟩
      · rw [sizeLine_eq]; omega
      · rw [sText_split hok e]
        have s0 : Same H (upd H l (.lst ((rowTexts rs).map V.str))) := same_new hl'
        refine ⟨l, rs, rfl, SqL.of upd_same, hok, hz, fun q ps H1 s1 nq eq hR => ?_⟩
        exact made_stack (c := c) (S := S) (.inl (SqL.of eq)) hR hok hz fun p H' s' np hS => k p H' ((s0.trans s1).trans s') (Same.free (s0.trans s1) np) hS
end
end Ow
end
section
namespace Ow
open PySem L2 Own
/-- a def, as it is called -/
structure Def (P : Program) (w : World) (K : PySem.W.Frag) (mg : Str → Option Value) (base : Heap) (k : Nat) (x : Str) (ps : List Str) (sp : Sp) (f : Addr) (fd : FuncData) : Prop where
  g : FnOk P w K mg base CX0 k f fd ps sp
  b : Binds K fd ps []
  m : mg x = some (.ref f)
  kp : PySem.W.keepIn K (.ref f) = true
section
variable {P : Program} {w : World} {K : PySem.W.Frag} {mg : Str → Option Value} {base : Heap} {c : Cs} {gs ge : Addr}
/-! ### an error with one field: made, raised -/
def spXInit (K : PySem.W.Frag) (CT : Addr) : Sp := fun vs H Q _ => ∃ (a : Addr) (v : V), vs = [.ref a, v] ∧ OexC K CT ∧ PySem.W.findIn K (.ref CT) "at" = some none ∧ H a = some (exo a CT none) ∧
  ∀ dx, H dx = none → dx ≠ a → Q .non (upd (upd H dx (exd dx [("at", v)])) a (exo a CT (some dx)))
theorem sc_xinit : FnScope ["self", "at"] ["self", "at"] (defScope s_InvalidText_init) := ⟨rfl, rfl, rfl, by decide +kernel, rfl, by decide +kernel, by decide +kernel⟩
theorem ok_xinit {CT f : Addr} {fd : FuncData} (F : Fun K "__init__" "InvalidText.__init__" s_InvalidText_init f fd) : FnOk P w K mg base CX0 1 f fd ["self", "at"] (spXInit K CT) := by
  refine F.ok sc_xinit (fun vs H Q E h => ?_) (fun cdv A outer s H vs Q E hr h => ?_)
  · obtain ⟨a, v, rfl, _⟩ := h
    rfl
  · obtain ⟨a, v, rfl, hO, hn, ha, k⟩ := h
    refine ⟨_, pss_one (ps_ost (f := "at") (pv 0) (pv 1)), ?_⟩
    exact ⟨_, rfl, _, rfl, a, CT, rfl, hO, hn, .inl ⟨ha, fun dx n ne => k dx n ne⟩⟩
/-- InvalidText, as it is raised and caught -/
structure ErrX (P : Program) (w : World) (K : PySem.W.Frag) (mg : Str → Option Value) (base : Heap) (CT CW CR fX : Addr) (dX : FuncData) : Prop where
  ox : OexC K CT
  iC : PySem.W.findIn K (.ref CT) "__init__" = some (some (.ref fX))
  tI : PySem.W.typeIn K (.ref fX) = some (.type "function")
  g : FnOk P w K mg base CX0 1 fX dX ["self", "at"] (spXInit K CT)
  b : Binds K dX ["self", "at"] []
  m : mg "InvalidText" = some (.ref CT)
  no : PySem.W.findIn K (.ref CT) "at" = some none
  te : PySem.W.exmOne K (.ref CT) (.ref CT) = some true
  xf : XfC K CT
  ex : L2.ExcC K CT
  kW : PySem.W.kitOne K (.ref CT) (.ref CW) = some true
  kR : PySem.W.kitOne K (.ref CT) (.ref CR) = some false
  mW : mg "WrapError" = some (.ref CW)
  mR : mg "InvalidRow" = some (.ref CR)
/-- what leaves: an InvalidText, its field v -/
def atX (CT : Addr) (v : V) (H : Hp) (E : XK) : Prop := ∀ d H', Same H H' → H' d = some (.xd [("at", v)]) → E (.ref CT) (some d) H'
theorem raiseX {CT : Addr} {v : V} {H : Hp} {E : XK} {Z : VK → Prop} (ox : OexC K CT) (no : PySem.W.findIn K (.ref CT) "at" = some none) (k : atX CT v H E) (a : Addr) (ha : H a = none) :
    spXInit K CT (.ref a :: ([v] ++ [])) (upd H a (exo a CT none)) (fun u H2 => u = .non ∧ ∃ (d : Addr) (fs : List (Str × V)), H2 a = some (exo a CT (some d)) ∧ H2 d = some (exd d fs) ∧ H d = none ∧ E (.ref CT) (some d) (upd (del H2 a) d (.xd fs))) (fun _ _ _ => False) := by
  refine ⟨a, v, rfl, ox, no, upd_same, fun dx ndx ne => ⟨rfl, dx, _, upd_same, by rw [upd_ne ne, upd_same], ?_, ?_⟩⟩
  · rw [upd_ne ne] at ndx
    exact ndx
  · have ndx' : H dx = none := by rw [upd_ne ne] at ndx; exact ndx
    refine k dx _ (fun b o e => ?_) upd_same
    have b1 : b ≠ dx := fun z => by rw [z, ndx'] at e; cases e
    have b2 : b ≠ a := fun z => by rw [z, ha] at e; cases e
    rw [upd_ne b1, del_ne b2, upd_ne b2, upd_ne b1, upd_ne b2]
    exact e
/-! ### Row.read, any text -/
def noText (x : Str) : Prop := ∀ r : R, r.ok = true → r.text ≠ x
def spReadX (c : Cs) (CT : Addr) : Sp := fun vs H Q E => ∃ (cl : V) (x : Str), vs = [cl, .str x] ∧ (∀ r : R, r.ok = true → r.text = x → ∀ (p : Addr) (H' : Hp), Same H H' → RowAt c H' p r → Q (.ref p) H') ∧ (noText x → ∀ H', Same H H' → atX CT (.int 0) H' E)
theorem ok_readX {f fE CT CW CR fX : Addr} {fd dE ds dX : FuncData} (F : Fun K "read" "Row.read" s_Row_read f fd) (T : Txt' K mg c gs ge) (GE : FnOk P w K mg base CX0 5 fE dE [] (spEvery c)) (bE : Binds K dE [] []) (mE : mg "every_row" = some (.ref fE)) (kE : PySem.W.keepIn K (.ref fE) = true)
    (GS : FnOk P w K mg base CX0 2 gs ds ["self"] (spStr c)) (bS : Binds K ds ["self"] []) (EX : ErrX P w K mg base CT CW CR fX dX) : FnOk P w K mg base (L2.CX P w) 6 f fd ["cls", "text"] (spReadX c CT) := by
  have RS := GS.raw bS .nil
  refine F.okX sc_read (fun vs H Q E h => ?_) (fun cdv A outer s H vs Q E hr h => ?_)
  · obtain ⟨cl, x, rfl, _⟩ := h
    rfl
  · obtain ⟨cl, x, rfl, hyes, hno⟩ := h
    refine ⟨_, pss_cons (ps_for (passes_of rfl) rfl (pi_list (pe_call0 GE hr (by rfl) mE kE bE .nil pass0)) (pg_name (i := 2) sc_read.nd rfl (Or.inl rfl))
        (pss_one (ps_if (pt_cmpR op_eq (pe_callTy (call_strOwn RS (hr.mono (by decide)) pass0) (by rfl) T.str (by decide +kernel) (pa_cons (pv 2) pa_nil)) (pv 1) (nomark _)) (pss_one (ps_ret (pv 2))) pss_nil)))
      (pss_one (ps_raise rfl (takes_of rfl rfl rfl rfl) (pmk_oex EX.ox EX.iC EX.tI EX.g (hr.mono (by decide)) EX.b .nil pass0 (by rfl) EX.m (pa_cons pe_int pa_nil)))), ?_⟩
    refine ⟨rfl, fun l ps H1 s1 hl rr nl => ⟨l, rfl, ⟨_, SqL.of hl⟩, ?_⟩⟩
    have hlen : ps.length = 27 := rr.len
    refine for_list (K := K) (a := l) (xs := ps.map V.ref) (fun i σ H2 => (∃ v, σ = [some cl, some (.str x), v]) ∧ Same H1 H2 ∧ ∀ j, j < i → ∀ r, allRows[j]? = some r → r.text ≠ x) ⟨⟨none, rfl⟩, Same.refl _, fun j hj => absurd hj (Nat.not_lt_zero _)⟩ (fun i σ H2 _ z => z.2.1.seq (SqL.of hl)) ?_ ?_
    · rintro i y σ H2 hi ⟨⟨v, rfl⟩, s2, hbe⟩
      obtain ⟨p, hp, rfl⟩ : ∃ p, ps[i]? = some p ∧ y = V.ref p := by
        rw [List.getElem?_map] at hi
        cases e : ps[i]? with
        | none => rw [e] at hi; cases hi
        | some p => rw [e] at hi; exact ⟨p, rfl, (Option.some.inj hi).symm⟩
      obtain ⟨s, hs, ⟨dx, hx⟩⟩ := pair_get rr hp
      have sok : s.ok = true := all_ok s (List.mem_of_getElem? hs)
      have hx2 := s2 _ _ hx
      refine ⟨_, rfl, p, c.of s, dx, _, ge, rfl, hx2, T.own s, p, s, rfl, sok, ⟨dx, hx2⟩, fun H3 s3 => ⟨_, rfl, _, rfl, rfl, _, rfl, ?_⟩⟩
      by_cases e : s.text = x
      · have e1 : decide (V.str s.text = V.str x) = true := decide_eq_true (by rw [e])
        rw [e1]
        refine iteT ?_
        exact ⟨_, rfl, hyes s sok e p H3 ((s1.trans s2).trans s3) ⟨dx, s3 _ _ hx2⟩⟩
      · have e1 : decide (V.str s.text = V.str x) = false := decide_eq_false fun z => e (V.str.inj z)
        rw [e1]
        refine iteF ⟨⟨_, rfl⟩, s2.trans s3, fun j hj r hr' => ?_⟩
        rcases Nat.lt_succ_iff_lt_or_eq.mp hj with hj | rfl
        · exact hbe j hj r hr'
        · rw [hs] at hr'
          cases hr'
          exact e
    · rintro σ H2 ⟨⟨v, rfl⟩, s2, hbe⟩
      have hn : noText x := fun r rok => by
        obtain ⟨j, hj⟩ : ∃ j, allRows[j]? = some r := List.getElem?_of_mem (mem_all rok)
        have h27 : j < 27 := (List.getElem?_eq_some_iff.mp hj).1
        exact hbe j (by rw [List.length_map, hlen]; exact h27) r hj
      exact ⟨by show 1 ≤ 1000; decide, fun a ha => raiseX (Z := fun _ => True) EX.ox EX.no (hno hn _ (s1.trans s2)) a ha⟩
end
end Ow
end
section
namespace Ow
open PySem L2 Own
section
variable {P : Program} {w : World} {K : PySem.W.Frag} {mg : Str → Option Value} {base : Heap} {c : Cs} {gs ge : Addr} {S gsS geS glS : Addr}
/-! ### Row.read where nothing is handled, rows_in of any lines -/
theorem ok_xinitH {CT f : Addr} {fd : FuncData} (F : Fun K "__init__" "InvalidText.__init__" s_InvalidText_init f fd) : L2H.FnH P w K mg base CX0 1 f fd ["self", "at"] (spXInit K CT) := by
  refine okH F sc_xinit (fun vs H Q E h => ?_) (fun cdv A outer s H vs Q E p h => ?_)
  · obtain ⟨a, v, rfl, _⟩ := h
    rfl
  · obtain ⟨a, v, rfl, hO, hn, ha, k⟩ := h
    refine ⟨_, pss_one (ps_ost (f := "at") (pv 0) (pv 1)), ?_⟩
    exact ⟨_, rfl, _, rfl, a, CT, rfl, hO, hn, .inl ⟨ha, fun dx n ne => k dx n ne⟩⟩
theorem ok_readN {f fE CT CW CR fX : Addr} {fd dE ds dX : FuncData} (F : Fun K "read" "Row.read" s_Row_read f fd) (T : Txt' K mg c gs ge) (GE : FnOk P w K mg base CX0 5 fE dE [] (spEvery c)) (bE : Binds K dE [] []) (mE : mg "every_row" = some (.ref fE)) (kE : PySem.W.keepIn K (.ref fE) = true)
    (GS : FnOk P w K mg base CX0 2 gs ds ["self"] (spStr c)) (bS : Binds K ds ["self"] []) (EX : ErrX P w K mg base CT CW CR fX dX) : FnOk P w K mg base (L2N.CX P w) 6 f fd ["cls", "text"] (spReadX c CT) := by
  have RS := GS.raw bS .nil
  refine okC F sc_read (fun vs H Q E h => ?_) (fun cdv A outer s H vs Q E hr h => ?_)
  · obtain ⟨cl, x, rfl, _⟩ := h
    rfl
  · obtain ⟨cl, x, rfl, hyes, hno⟩ := h
    refine ⟨_, pss_cons (ps_for (passes_of rfl) rfl (pi_list (pe_call0 GE hr (by rfl) mE kE bE .nil pass0)) (pg_name (i := 2) sc_read.nd rfl (Or.inl rfl))
        (pss_one (ps_if (pt_cmpR op_eq (pe_callTy (call_strOwn RS (hr.mono (by decide)) pass0) (by rfl) T.str (by decide +kernel) (pa_cons (pv 2) pa_nil)) (pv 1) (nomark _)) (pss_one (ps_ret (pv 2))) pss_nil)))
      (pss_one (L2N.ps_raise rfl (L2N.takes_of rfl rfl rfl rfl) (pmkN EX.ox EX.iC EX.tI EX.g (hr.mono (by decide)) EX.b .nil pass0 (by rfl) EX.m (pa_cons pe_int pa_nil)))), ?_⟩
    refine ⟨rfl, fun l ps H1 s1 hl rr nl => ⟨l, rfl, ⟨_, SqL.of hl⟩, ?_⟩⟩
    have hlen : ps.length = 27 := rr.len
    refine for_list (K := K) (a := l) (xs := ps.map V.ref) (fun i σ H2 => (∃ v, σ = [some cl, some (.str x), v]) ∧ Same H1 H2 ∧ ∀ j, j < i → ∀ r, allRows[j]? = some r → r.text ≠ x) ⟨⟨none, rfl⟩, Same.refl _, fun j hj => absurd hj (Nat.not_lt_zero _)⟩ (fun i σ H2 _ z => z.2.1.seq (SqL.of hl)) ?_ ?_
    · rintro i y σ H2 hi ⟨⟨v, rfl⟩, s2, hbe⟩
      obtain ⟨p, hp, rfl⟩ : ∃ p, ps[i]? = some p ∧ y = V.ref p := by
        rw [List.getElem?_map] at hi
        cases e : ps[i]? with
        | none => rw [e] at hi; cases hi
        | some p => rw [e] at hi; exact ⟨p, rfl, (Option.some.inj hi).symm⟩
      obtain ⟨s, hs, ⟨dx, hx⟩⟩ := pair_get rr hp
      have sok : s.ok = true := all_ok s (List.mem_of_getElem? hs)
      have hx2 := s2 _ _ hx
      refine ⟨_, rfl, p, c.of s, dx, _, ge, rfl, hx2, T.own s, p, s, rfl, sok, ⟨dx, hx2⟩, fun H3 s3 => ⟨_, rfl, _, rfl, rfl, _, rfl, ?_⟩⟩
      by_cases e : s.text = x
      · have e1 : decide (V.str s.text = V.str x) = true := decide_eq_true (by rw [e])
        rw [e1]
        refine iteT ?_
        exact ⟨_, rfl, hyes s sok e p H3 ((s1.trans s2).trans s3) ⟨dx, s3 _ _ hx2⟩⟩
      · have e1 : decide (V.str s.text = V.str x) = false := decide_eq_false fun z => e (V.str.inj z)
        rw [e1]
        refine iteF ⟨⟨_, rfl⟩, s2.trans s3, fun j hj r hr' => ?_⟩
        rcases Nat.lt_succ_iff_lt_or_eq.mp hj with hj | rfl
        · exact hbe j hj r hr'
        · rw [hs] at hr'
          cases hr'
          exact e
    · rintro σ H2 ⟨⟨v, rfl⟩, s2, hbe⟩
      have hn : noText x := fun r rok => by
        obtain ⟨j, hj⟩ : ∃ j, allRows[j]? = some r := List.getElem?_of_mem (mem_all rok)
        have h27 : j < 27 := (List.getElem?_eq_some_iff.mp hj).1
        exact hbe j (by rw [List.length_map, hlen]; exact h27) r hj
      exact ⟨by show 1 ≤ 1000; decide, fun a ha => raiseX (Z := fun _ => True) EX.ox EX.no (hno hn _ (s1.trans s2)) a ha⟩
theorem txt_or (x : Str) : (∃ r : R, r.ok = true ∧ r.text = x) ∨ noText x := by
  by_cases h : ∃ r : R, r.ok = true ∧ r.text = x
  · exact .inl h
  · exact .inr fun r rok e => h ⟨r, rok, e⟩
/-- the first line that is no row's text stands at i -/
def BadAt (xs : List Str) (i : Nat) : Prop := (∃ x, xs[i]? = some x ∧ noText x) ∧ ∃ rs : List R, rowTexts rs = xs.take i ∧ ∀ r ∈ rs, r.ok = true
def spRowsInX (K : PySem.W.Frag) (c : Cs) (CT : Addr) : Sp := fun vs H Q E => ∃ (l : Addr) (xs : List Str), vs = [.ref l] ∧ SqL K H l (xs.map V.str) ∧ xs.length ≤ 100 ∧
  (∀ rs : List R, rowTexts rs = xs → (∀ r ∈ rs, r.ok = true) → ∀ (q : Addr) (ps : List Addr) (H' : Hp), Same H H' → H q = none → H' q = some (.lst (ps.map V.ref)) → RowsAt c H' ps rs → Q (.ref q) H') ∧
  (∀ i : Nat, BadAt xs i → ∀ H', Same H H' → atX CT (.int i) H' E)
abbrev tbRI (K : PySem.W.Frag) (c : Cs) (CT : Addr) (E : XK) : TS := fun D σ H => tDrop (tBM K "list" rAppend (tVar 1) (tCons (tCMethS c.row (fun vs H Q E => spReadX c CT (vs ++ []) H Q E)
  (WE (wOnly K (.ref CT) (fun _ _ _ => fun _ σ H => tMkO CT (spXInit K CT) [] (tCons (tVar 2) tNil) σ H fun cls d H' => E cls d H') (fun cls d _ H => E cls d H) D)) (tC (.ref c.row)) (tCons (tVar 3) tNil)) tNil)) D σ H
theorem ok_rows_inX {f pR fR CT CW CR fX : Addr} {fd dR dX : FuncData} {mc : Value} (F : Fun K "rows_in" "rows_in" s_rows_in f fd) (T : Txt' K mg c gs ge) (TS : TxtS K mg S gsS geS glS) (EX : ErrX P w K mg base CT CW CR fX dX) (GH : L2H.FnH P w K mg base CX0 1 fX dX ["self", "at"] (spXInit K CT))
    (GR : FnOk P w K mg base (L2N.CX P w) 6 fR dR ["cls", "text"] (spReadX c CT)) (bR : Binds K dR ["cls", "text"] []) (cr : ClX.CRead K c.row mc) (cm : ClX.CMet K c.row mc "read" pR fR) :
    FnOk P w K mg base (L2.CX P w) 7 f fd ["lines"] (spRowsInX K c CT) := by
  have FR := GR.raw bR .nil
  refine F.okX sc_rowsin (fun vs H Q E h => ?_) (fun cdv A outer s H vs Q E hr h => ?_)
  · obtain ⟨l, xs, rfl, _⟩ := h
    rfl
  · obtain ⟨l, xs, rfl, hl, hz, hyes, hno⟩ := h
    refine ⟨_, pss_cons (ps_set (i := 1) sc_rowsin.nd rfl (Or.inl rfl) (pe_lst pa_nil))
      (pss_cons (ps_for (passes_of rfl) rfl (pi_enum (by rfl) TS.enum_ (pa_cons (pv 0) pa_nil)) (pg_tup rfl (pgs_cons (pg_name (i := 2) sc_rowsin.nd rfl (Or.inl rfl)) (pgs_cons (pg_name (i := 3) sc_rowsin.nd rfl (Or.inl rfl)) pgs_nil)))
        (pss_one (L2H.ps_try_onlyX (tb := fun W => tDrop (tBM K "list" rAppend (tVar 1) (tCons (tCMethS c.row (fun vs H Q E => spReadX c CT (vs ++ []) H Q E) (WE W) (tC (.ref c.row)) (tCons (tVar 3) tNil)) tNil))) rfl rfl ⟨rfl, by decide, Or.inl EX.m⟩ (fun _ => .leaving) (takes_of rfl rfl rfl rfl)
          (fun W pn xe tk _ _ => pss_one (ps_expr (by exact (pe_bm PySem.F.plainAttrs_list PySem.F.slot_list_append PySem.F.type_list_append mt_append (pv 1)
            (pa_cons (pe_cmethS (pe_glob (v := .ref c.row) (by rfl) T.mRow rfl) cr cm FR hr (fun σ => L2N.passAt tk σ) (pa_cons (pv 3) pa_nil)) pa_nil)))))
          (fun a oe cls d pn _ _ tkS hot => pss_one (L2H.ps_raiseHN hot tkS (L2H.pmk5_oexH EX.ox EX.iC EX.tI GH (L2H.roomH_mark (hr.mono (by decide)) _) hot EX.b pass0 (by rfl) EX.m (pa_cons (pv 2) pa_nil)))))))
      (pss_one (ps_ret (pv 1)))), ?_⟩
    refine ⟨by show 0 ≤ sizeLine; decide, fun D hD => ?_⟩
    have s0 : Same H (upd H D (.lst [])) := same_new hD
    refine ⟨_, rfl, l, _, rfl, s0.seq hl, ?_⟩
    refine for_enumL (tb := tbRI K c CT E) (K := K) (a := l) (xs := xs.map V.str) (fun i τ G => (∃ x y, τ = [some (.ref l), some (.ref D), x, y]) ∧ ∃ rs : List R, rowTexts rs = xs.take i ∧ (∀ r ∈ rs, r.ok = true) ∧ Fill c H D rs G) ⟨⟨none, none, rfl⟩, [], rfl, (fun r h => nomatch h), Fill.nil hD⟩ (fun i τ G _ z => ?_) ?_ ?_
    · obtain ⟨_, rs, _, _, ps, _, _, s⟩ := z
      exact s.seq hl
    · rintro i x τ G U hx ⟨⟨x1, y1, rfl⟩, rs, ers, oks, FG⟩ hU
      obtain ⟨z, hz', rfl⟩ : ∃ z, xs[i]? = some z ∧ x = V.str z := by
        rw [List.getElem?_map] at hx
        cases e : xs[i]? with
        | none => rw [e] at hx; cases hx
        | some p => rw [e] at hx; exact ⟨p, rfl, (Option.some.inj hx).symm⟩
      have s1 : Same G (upd G U (.tup [.int (i : Nat), .str z])) := same_new hU
      have FG1 := FG.same s1
      have li : rs.length ≤ 100 := by
        have e := congrArg List.length ers
        unfold rowTexts at e
        rw [List.length_map, List.length_take] at e
        omega
      refine ⟨U, _, rfl, SqT.of upd_same, rfl, _, _, rfl, _, _, rfl, rfl, ?_⟩
      obtain ⟨ps, eD, hRows, sH⟩ := id FG1
      refine ⟨_, rfl, .inl ⟨rfl, _, SqL.of eD⟩, rfl, _, rfl, _, z, rfl, fun r rok er p H3 s3 hp => ?_, fun hn H3 s3 d H4 s4 hd => ?_⟩
      · obtain ⟨acc, e1, e2, e3⟩ := FG1.step hD s3 hp li
        refine ⟨D, acc, .ref p, rfl, rfl, e1, e2, ⟨_, _, rfl⟩, rs ++ [r], ?_, ?_, e3⟩
        · rw [take_next hz', ← ers, ← er]
          unfold rowTexts
          rw [List.map_append]
          rfl
        · intro q hq
          rcases List.mem_append.mp hq with hq | hq
          · exact oks q hq
          · rw [List.mem_singleton.mp hq]; exact rok
      · refine ⟨true, EX.te, fun _ a ha => ?_, fun q => Bool.noConfusion q⟩
        refine ⟨_, rfl, by show 1 ≤ 1000; decide, fun a2 ha2 => ?_⟩
        exact raiseX (Z := fun _ => True) EX.ox EX.no (hno i ⟨⟨z, hz', hn⟩, rs, ers, oks⟩ _ ((sH.trans s3).trans s4)) a2 ha2
    · rintro τ G ⟨⟨x, y, rfl⟩, rs, ers, oks, FG⟩
      rw [List.length_map, List.take_length] at ers
      obtain ⟨ps, eD, hRows, sH⟩ := FG
      exact ⟨_, rfl, hyes rs ers oks D ps G sH hD eD hRows⟩
end
end Ow
end
section
namespace Ow
open PySem L2 Own
open TL
section
/-! ### lines -/
def Lines (xs : List Str) : Prop := xs ≠ [] ∧ xs.length ≤ 50 ∧ (∀ x ∈ xs, 10 ∉ tl x ∧ x.length ≤ 100) ∧ Txt.join "\n" xs ≠ ""
theorem Lines.split {xs : List Str} (h : Lines xs) : Txt.split (Txt.join "\n" xs) "\n" = xs := split_join nl_tl (by decide +kernel) h.1 fun p hp => (h.2.2.1 p hp).1
theorem sum_lens : ∀ xs : List Str, (∀ x ∈ xs, x.length ≤ 100) → (xs.map (·.length)).sum ≤ xs.length * 100
  | [], _ => Nat.le_refl _
  | x :: t, h => by
    have ih := sum_lens t fun q hq => h q (List.mem_cons_of_mem _ hq)
    have h1 := h x (List.mem_cons_self ..)
    rw [List.map_cons, List.sum_cons, List.length_cons]
    omega
theorem join_len {xs : List Str} (hz : xs.length ≤ 50) (h : ∀ x ∈ xs, x.length ≤ 100) : (Txt.join "\n" xs).length ≤ 6000 := by
  have h1 : (tl (Txt.join "\n" xs)).length ≤ ((xs.map tl).map (·.length)).sum + (xs.map tl).length := by
    rw [join_eq, tl_join, nl_tl]
    exact joinL_len 10 _
  have h2 : (xs.map tl).map (·.length) = xs.map (·.length) := by
    rw [List.map_map]; rfl
  rw [h2, List.length_map] at h1
  have h3 := sum_lens xs h
  have h4 : (tl (Txt.join "\n" xs)).length = (Txt.join "\n" xs).length := rfl
  omega
theorem Lines.len {xs : List Str} (h : Lines xs) : (Txt.join "\n" xs).length ≤ 6000 := join_len h.2.1 fun x hx => (h.2.2.1 x hx).2
end
section
variable {P : Program} {w : World} {K : PySem.W.Frag} {mg : Str → Option Value} {base : Heap} {c : Cs} {gs ge : Addr} {S gsS geS glS : Addr}
/-! ### Stack.read of any lines, _law_heard -/
def spReadSX (K : PySem.W.Frag) (c : Cs) (S CT : Addr) : Sp := fun vs H Q E => ∃ xs : List Str, vs = [.ref S, .str (Txt.join "\n" xs)] ∧ Lines xs ∧
  (∀ rs : List R, rowTexts rs = xs → (∀ r ∈ rs, r.ok = true) → ∀ (p : Addr) (H' : Hp), Same H H' → H p = none → StackAt K c S H' p rs → Q (.ref p) H') ∧ (∀ i : Nat, BadAt xs i → ∀ H', Same H H' → atX CT (.int i) H' E)
theorem ok_readSX {f fI d0 fN CT : Addr} {fd dI dN : FuncData} (F : Fun K "read" "Stack.read" s_Stack_read f fd) (M : MakeS P w K mg base c S fI d0 dI) (GN : FnOk P w K mg base (L2.CX P w) 7 fN dN ["lines"] (spRowsInX K c CT)) (bN : Binds K dN ["lines"] []) (mN : mg "rows_in" = some (.ref fN)) (kN : PySem.W.keepIn K (.ref fN) = true) :
    FnOk P w K mg base (L2.CX P w) 8 f fd ["cls", "text"] (spReadSX K c S CT) := by
  refine F.okX sc_readS (fun vs H Q E h => ?_) (fun cdv A outer s H vs Q E hr h => ?_)
  · obtain ⟨xs, rfl, _⟩ := h
    rfl
  · obtain ⟨xs, rfl, hL, hyes, hno⟩ := h
    have hr4 := hr.mono (show 3 + 1 ≤ 7 by decide)
    refine ⟨_, pss_cons (ps_if (pt_cmpR op_eq (pv 1) pe_str (nomark _)) (pss_one (ps_ret (pe_makeL0 (i := 0) M.mkr M.g hr4 rfl (Or.inl rfl) M.b0 (.cons (show RelV (.ref d0) (.ref d0) from rfl) .nil) pass0))) pss_nil)
      (pss_one (ps_ret (pe_makeL (i := 0) M.mkr M.g hr4 rfl (Or.inl rfl) M.b .nil pass0 (pa_cons (pe_callS (E := WE (fun cls d _ H => E cls d H)) GN hr (by rfl) mN kN bN (fun σ => passAt (takes_of rfl rfl rfl rfl) σ) (pa_cons (pe_split (pv 1) pe_str) pa_nil)) pa_nil)))), ?_⟩
    refine ⟨_, rfl, rfl, _, rfl, ?_⟩
    have e1 : decide (V.str (Txt.join "\n" xs) = V.str "") = false := decide_eq_false fun z => hL.2.2.2 (V.str.inj z)
    rw [e1]
    refine iteF ?_
    refine ⟨rfl, ?_⟩
    have hl := hL.len
    refine ⟨_, rfl, ⟨_, rfl⟩, _, _, rfl, rfl, by decide +kernel, ?_, fun l hl' => ?_⟩
    · rw [sizeLine_eq]; omega
    · rw [hL.split]
      have s0 : Same H (upd H l (.lst (xs.map V.str))) := same_new hl'
      have hz : xs.length ≤ 50 := hL.2.1
      refine ⟨l, xs, rfl, SqL.of upd_same, by omega, fun rs e hok q ps H1 s1 nq eq hR => ?_, fun i hb H1 s1 => hno i hb _ (s0.trans s1)⟩
      have ln : rs.length ≤ 100 := by rw [← rowTexts_len rs, e]; omega
      exact made_stack (c := c) (S := S) (.inl (SqL.of eq)) hR hok ln fun p H' s' np hS => hyes rs e hok p H' ((s0.trans s1).trans s') (Same.free (s0.trans s1) np) hS
def spHeard8 : Sp := fun vs H Q _ => ∃ xs : List Str, vs = [.str (Txt.join "\n" xs)] ∧ Lines xs ∧ (∀ rs : List R, rowTexts rs = xs → (∀ r ∈ rs, r.ok = true) → ∀ H', Same H H' → Q (.str (Txt.join "\n" xs)) H') ∧ (∀ i : Nat, BadAt xs i → ∀ H', Same H H' → Q (.int i) H')
abbrev nHeard8 : List Str := ["_law_text", "_law_found", "e"]
theorem sc_heard8 : FnScope nHeard8 ["_law_text"] (defScope s_law_heard) := ⟨rfl, rfl, rfl, by decide +kernel, rfl, by decide +kernel, by decide +kernel⟩
theorem ok_heard8 {f CT CW CR CI fX pR fR : Addr} {fd dX dR ds : FuncData} {mc : Value} (F : Fun K "_law_heard" "_law_heard" s_law_heard f fd) (TS : TxtS K mg S gsS geS glS) (EX : ErrX P w K mg base CT CW CR fX dX) (kI : PySem.W.kitOne K (.ref CT) (.ref CI) = some false) (mI : mg "InvalidStack" = some (.ref CI))
    (GR : FnOk P w K mg base (L2.CX P w) 8 fR dR ["cls", "text"] (spReadSX K c S CT)) (bR : Binds K dR ["cls", "text"] []) (cr : ClX.CRead K S mc) (cm : ClX.CMet K S mc "read" pR fR)
    (GS : FnOk P w K mg base CX0 5 gsS ds ["self"] (spStrS K c S)) (bS : Binds K ds ["self"] []) : FnOk P w K mg base CX0 9 f fd ["_law_text"] spHeard8 := by
  have FR := GR.raw bR .nil
  have RS := GS.raw bS .nil
  refine F.ok sc_heard8 (fun vs H Q E h => ?_) (fun cdv A outer s H vs Q E hr h => ?_)
  · obtain ⟨x, rfl, _⟩ := h
    rfl
  · obtain ⟨xs, rfl, hL, hyes, hno⟩ := h
    have s7 := hr.mono (show 5 + 2 ≤ 8 by decide)
    refine ⟨_, pss_cons (ps_set (i := 1) sc_heard8.nd rfl (Or.inl rfl) pe_non)
      (pss_cons (ps_try_as (i := 2) (tb := fun W => tAsg (tCB (rStrOwn K gsS (fun vs H Q E => spStrS K c S (vs ++ []) H Q E) E0) (tCons (tCMethS S (fun vs H Q E => spReadSX K c S CT (vs ++ []) H Q E) (WE W) (tC (.ref S)) (tCons (tVar 0) tNil)) tNil)) (gName 1))
        (ts := fun a cls d => tAsg (tIf (tAnd (tB (tCB (rIsX K CT a cls d) (tCons (tVar 2) (tCons (tC (.ref CW)) tNil)))) (tNot (tB (tCB (rIsX K CT a cls d) (tCons (tVar 2) (tCons (tC (.ref CI)) tNil)))))) (tXf a cls d CT "at" (tVar 2)) (tC (.str "other"))) (gName 1))
        (Wout := fun _ _ _ _ => False) rfl rfl sc_heard8.nd rfl rfl ⟨rfl, by decide, Or.inl EX.m⟩ takes0
        (fun W pn xe tk _ => pss_one (ps_set (i := 1) sc_heard8.nd rfl (Or.inl rfl) (by exact (pe_callTy (T := "str") (call_strOwn RS s7 pass0) (by rfl) TS.str_ (by decide +kernel) (pa_cons (pe_cmethS (pe_glob (v := .ref S) (by rfl) TS.mStack rfl) cr cm FR hr (fun σ => passAt tk σ) (pa_cons (pv 0) pa_nil)) pa_nil)))))
        (fun a oe cls d pn hz hf => pss_one (ps_set (i := 1) sc_heard8.nd rfl (Or.inl rfl) (by exact (pe_ifExp (PW.pt (pw_and (pt_val (pe_callB (call_isX EX.ex hz hf) (by rfl) TS.isi (by decide +kernel) (pa_cons (pv 2) (pa_cons (pe_glob (v := .ref CW) (by rfl) EX.mW rfl) pa_nil))))
          (pw_and1 (pt_not (pt_val (pe_callB (call_isX EX.ex hz hf) (by rfl) TS.isi (by decide +kernel) (pa_cons (pv 2) (pa_cons (pe_glob (v := .ref CI) (by rfl) mI rfl) pa_nil)))))))) (pe_xf EX.xf EX.no hz hf (pv 2)) pe_str)))))
      (pss_one (ps_ret (pv 1)))), ?_⟩
    refine ⟨rfl, _, rfl, xs, rfl, hL, fun rs e hok p H1 s1 np hS => ?_, fun i hb H1 s1 d H2 s2 hd => ?_⟩
    · obtain ⟨dx, l, ps0, hp, hrest⟩ := id hS
      refine ⟨p, S, dx, _, geS, rfl, hp, TS.own, p, rs, rfl, hS, fun H2 s2 => ⟨_, rfl, ?_⟩⟩
      refine ⟨_, rfl, ?_⟩
      have hq := hyes rs e hok H2 (s1.trans s2)
      unfold sText
      rw [e]
      exact hq
    · refine ⟨true, EX.te, fun _ a ha => ?_, fun q => Bool.noConfusion q⟩
      refine ⟨_, rfl, CW, true, d, _, rfl, rfl, EX.kW, rfl, hd, _, rfl, iteT ?_⟩
      refine ⟨_, rfl, CI, false, d, _, rfl, rfl, kI, rfl, hd, _, rfl, iteT ?_⟩
      refine ⟨_, rfl, rfl, rfl, d, _, _, rfl, hd, rfl, ?_⟩
      exact ⟨_, rfl, hno i hb _ (s1.trans s2)⟩
end
end Ow
end
section
namespace Ow
open PySem L2 Own
open TL
section
variable {P : Program} {w : World} {K : PySem.W.Frag} {mg : Str → Option Value} {base : Heap} {c : Cs} {gs ge : Addr}
theorem base_rng {L : Int} (h0 : 0 ≤ L) : 1 ≤ (if (if L < 3 then L else 3) > 1 then (if L < 3 then L else 3) else 1) ∧ (if (if L < 3 then L else 3) > 1 then (if L < 3 then L else 3) else 1) ≤ (3 : Int) := by
  split <;> split <;> omega
def spLaw (K : PySem.W.Frag) : Sp := fun vs H Q _ => ∃ (a : Addr) (ns : List Int), vs = [.ref a] ∧ SqL K H a (ns.map V.int) ∧ ns.length ≤ 63 ∧ ∀ H', Q (.bl true) H'
/-! ### lines, the odd ones among them -/
def odds1 : List Str := ["", " ", "keep good", "limit 0", "limit 7", "tries 4 all", "soft", "leave ", " leave", "Leave"]
def odds2 : List Str := ["keep good 4", "tries 0 fault", "soft late", "count 1", "stack", "limit 02"]
def odds : List Str := odds1 ++ odds2
def LineOk (x : Str) : Prop := (∃ r : R, r.ok = true ∧ r.text = x) ∨ x ∈ odds
theorem odd_no {x : Str} (h : x ∈ odds) : noText x := by
  have key : ∀ x ∈ odds, ∀ r ∈ allRows, r.text ≠ x := by decide +kernel
  exact fun r rok => key x h r (mem_all rok)
theorem line_sm {x : Str} (h : LineOk x) : 10 ∉ tl x ∧ x.length ≤ 100 := by
  rcases h with ⟨r, rok, rfl⟩ | h
  · exact ⟨text_nl rok, (text_small rok).2⟩
  · have key : ∀ x ∈ odds, 10 ∉ tl x ∧ x.length ≤ 100 := by decide +kernel
    exact key x h
theorem flat_strs8 : ∀ ns : List Str, (ns.map V.str).all flatV = true
  | [] => rfl
  | n :: r => by rw [List.map_cons, List.all_cons, flat_strs8 r]; rfl
theorem inV_strs8 (x : Str) : ∀ ns : List Str, inV (.str x) (ns.map V.str) = decide (x ∈ ns)
  | [] => by simp [inV]
  | n :: r => by
    have ih := inV_strs8 x r
    unfold inV at ih ⊢
    rw [List.map_cons, List.any_cons, ih]
    by_cases e : n = x
    · subst e
      simp [eqV]
    · have e' : ¬ x = n := fun z => e z.symm
      simp [eqV, e, e']
/-- the numbers of those that are odd -/
def wr : List Str → Nat → List Int
  | [], _ => []
  | x :: t, n => if x ∈ odds then (n : Int) :: wr t (n + 1) else wr t (n + 1)
theorem wr_snoc : ∀ (xs : List Str) (x : Str) (n : Nat), wr (xs ++ [x]) n = wr xs n ++ (if x ∈ odds then [((n + xs.length : Nat) : Int)] else [])
  | [], x, n => by
    show (if x ∈ odds then (n : Int) :: [] else []) = _
    by_cases h : x ∈ odds
    · rw [if_pos h, if_pos h]; rfl
    · rw [if_neg h, if_neg h]; rfl
  | y :: t, x, n => by
    have ih := wr_snoc t x (n + 1)
    have e : n + 1 + t.length = n + (y :: t).length := by rw [List.length_cons]; omega
    rw [e] at ih
    show (if y ∈ odds then (n : Int) :: wr (t ++ [x]) (n + 1) else wr (t ++ [x]) (n + 1)) = (if y ∈ odds then (n : Int) :: wr t (n + 1) else wr t (n + 1)) ++ _
    by_cases h : y ∈ odds
    · rw [if_pos h, if_pos h, ih]; rfl
    · rw [if_neg h, if_neg h, ih]
theorem wr_len : ∀ (xs : List Str) (n : Nat), (wr xs n).length ≤ xs.length
  | [], n => Nat.le_refl _
  | x :: t, n => by
    show (if x ∈ odds then (n : Int) :: wr t (n + 1) else wr t (n + 1)).length ≤ _
    have ih := wr_len t (n + 1)
    rw [List.length_cons]
    by_cases h : x ∈ odds
    · rw [if_pos h, List.length_cons]; omega
    · rw [if_neg h]; omega
theorem rows_all8 : ∀ {xs : List Str}, (∀ x ∈ xs, LineOk x) → (∀ x ∈ xs, x ∉ odds) → ∃ rs : List R, rowTexts rs = xs ∧ ∀ r ∈ rs, r.ok = true
  | [], _, _ => ⟨[], rfl, fun r h => nomatch h⟩
  | x :: t, h1, h2 => by
    obtain ⟨rs, e, ok⟩ := rows_all8 (fun y hy => h1 y (List.mem_cons_of_mem _ hy)) (fun y hy => h2 y (List.mem_cons_of_mem _ hy))
    rcases h1 x (List.mem_cons_self ..) with ⟨r, rok, er⟩ | ho
    · refine ⟨r :: rs, ?_, fun q hq => ?_⟩
      · rw [← e, ← er]; rfl
      · rcases List.mem_cons.mp hq with rfl | hq
        · exact rok
        · exact ok q hq
    · exact (h2 x (List.mem_cons_self ..) ho).elim
theorem wr_nil : ∀ {xs : List Str} {n : Nat}, wr xs n = [] → ∀ x ∈ xs, x ∉ odds
  | [], _, _, x, h => nomatch h
  | y :: t, n, e, x, h => by
    have e' : (if y ∈ odds then (n : Int) :: wr t (n + 1) else wr t (n + 1)) = [] := e
    by_cases hy : y ∈ odds
    · rw [if_pos hy] at e'; cases e'
    · rw [if_neg hy] at e'
      rcases List.mem_cons.mp h with rfl | h
      · exact hy
      · exact wr_nil e' x h
theorem wr_cons : ∀ {xs : List Str} {n : Nat} {i : Int} {t : List Int}, (∀ x ∈ xs, LineOk x) → wr xs n = i :: t → ∃ j : Nat, i = ((n + j : Nat) : Int) ∧ BadAt xs j
  | [], _, _, _, _, e => nomatch e
  | y :: u, n, i, t, h, e => by
    have e' : (if y ∈ odds then (n : Int) :: wr u (n + 1) else wr u (n + 1)) = i :: t := e
    by_cases hy : y ∈ odds
    · rw [if_pos hy] at e'
      injection e' with e1 _
      exact ⟨0, e1.symm, ⟨y, rfl, odd_no hy⟩, [], rfl, fun r h => nomatch h⟩
    · rw [if_neg hy] at e'
      obtain ⟨j, ej, ⟨x, hx, nx⟩, rs, ers, ok⟩ := wr_cons (fun x hx => h x (List.mem_cons_of_mem _ hx)) e'
      rcases h y (List.mem_cons_self ..) with ⟨r, rok, er⟩ | ho
      · refine ⟨j + 1, by rw [ej]; omega, ⟨x, hx, nx⟩, r :: rs, ?_, fun q hq => ?_⟩
        · show r.text :: rowTexts rs = y :: u.take j
          rw [ers, er]
        · rcases List.mem_cons.mp hq with rfl | hq
          · exact rok
          · exact ok q hq
      · exact (hy ho).elim
theorem lines_of {xs : List Str} (hn : xs ≠ []) (hz : xs.length ≤ 50) (h : ∀ x ∈ xs, LineOk x) (he : Txt.join "\n" xs ≠ "") : Lines xs := ⟨hn, hz, fun x hx => line_sm (h x hx), he⟩
theorem no_rows {xs : List Str} {x : Str} (hx : x ∈ xs) (hn : noText x) {rs : List R} (e : rowTexts rs = xs) (ok : ∀ r ∈ rs, r.ok = true) : False := by
  rw [← e] at hx
  unfold rowTexts at hx
  obtain ⟨r, hr, er⟩ := List.mem_map.mp hx
  exact hn r (ok r hr) er
theorem no_bad {xs : List Str} {i : Nat} {rs : List R} (e : rowTexts rs = xs) (ok : ∀ r ∈ rs, r.ok = true) (h : BadAt xs i) : False := by
  obtain ⟨⟨x, hx, nx⟩, _⟩ := h
  exact no_rows (List.mem_of_getElem? hx) nx e ok
theorem bad_uniq {xs : List Str} {i j : Nat} (h : BadAt xs i) (g : BadAt xs j) : i = j := by
  have key : ∀ {i j : Nat}, BadAt xs i → BadAt xs j → ¬ i < j := fun {i j} h g lt => by
    obtain ⟨⟨x, hx, nx⟩, _⟩ := h
    obtain ⟨_, rs, e, ok⟩ := g
    have hx2 : x ∈ xs.take j := List.mem_of_getElem? (by rw [List.getElem?_take_of_lt lt]; exact hx)
    exact no_rows hx2 nx e ok
  have h1 := key h g
  have h2 := key g h
  omega
theorem okAll8 {H : Hp} {ts : List Addr} {rs : List R} (h : TupsAt H ts rs) : ∀ r ∈ rs, r.ok = true := by
  induction h with
  | nil => intro r h; cases h
  | cons a t ih =>
    intro r h
    rcases List.mem_cons.mp h with rfl | h
    · exact a.2
    · exact ih r h
/-! ### lists of lines cut and put together -/
def LL (ys : List V) : Prop := ∀ y ∈ ys, ∃ x, y = V.str x ∧ LineOk x
theorem LL.take {ys : List V} (h : LL ys) (n : Nat) : LL (ys.take n) := fun y hy => h y (List.mem_of_mem_take hy)
theorem LL.drop {ys : List V} (h : LL ys) (n : Nat) : LL (ys.drop n) := fun y hy => h y (List.mem_of_mem_drop hy)
theorem LL.app {ys zs : List V} (h : LL ys) (g : LL zs) : LL (ys ++ zs) := fun y hy => (List.mem_append.mp hy).elim (h y) (g y)
theorem LL.rev {ys : List V} (h : LL ys) : LL ys.reverse := fun y hy => h y (List.mem_reverse.mp hy)
theorem LL.cut {ys : List V} (h : LL ys) (lo hi : Option Int) : LL (cutV ys lo hi) := fun y hy => h y (by unfold cutV at hy; exact List.mem_of_mem_drop (List.mem_of_mem_take hy))
theorem LL.one {x : Str} (h : LineOk x) : LL [.str x] := fun y hy => ⟨x, List.mem_singleton.mp hy, h⟩
theorem LL.strs : ∀ {ys : List V}, LL ys → ∃ xs : List Str, ys = xs.map V.str ∧ ∀ x ∈ xs, LineOk x
  | [], _ => ⟨[], rfl, fun x h => nomatch h⟩
  | y :: t, h => by
    obtain ⟨xs, e, ok⟩ := LL.strs (ys := t) fun z hz => h z (List.mem_cons_of_mem _ hz)
    obtain ⟨x, ex, hx⟩ := h y (List.mem_cons_self ..)
    refine ⟨x :: xs, by rw [e, ex]; rfl, fun z hz => ?_⟩
    rcases List.mem_cons.mp hz with rfl | hz
    · exact hx
    · exact ok z hz
theorem cut_dropV (xs : List V) (n : Nat) : cutV xs (some (n : Int)) none = xs.drop n := by
  unfold cutV
  have e1 : HT.sIx xs.length xs.length none = xs.length := rfl
  have e2 : HT.sIx xs.length 0 (some (n : Int)) = min n xs.length := HT.sIx_nat ..
  rw [e1, e2]
  rcases Nat.le_total n xs.length with h | h
  · rw [Nat.min_eq_left h]
    exact List.take_of_length_le (by rw [List.length_drop]; exact Nat.le_refl _)
  · rw [Nat.min_eq_right h, List.drop_eq_nil_of_le h, List.drop_eq_nil_of_le (Nat.le_refl _), List.take_nil]
theorem cut_mid (xs : List V) (n : Nat) : (cutV xs (some (n : Int)) (some ((n + 2 : Nat) : Int))).length ≤ 2 ∧ (n = 0 → xs ≠ [] → cutV xs (some (n : Int)) (some ((n + 2 : Nat) : Int)) ≠ []) := by
  unfold cutV
  have e1 : HT.sIx xs.length xs.length (some ((n + 2 : Nat) : Int)) = min (n + 2) xs.length := HT.sIx_nat ..
  have e2 : HT.sIx xs.length 0 (some (n : Int)) = min n xs.length := HT.sIx_nat ..
  rw [e1, e2]
  refine ⟨by rw [List.length_take]; omega, fun hn hx e => ?_⟩
  subst hn
  have h1 : 0 < xs.length := List.length_pos_iff.mpr hx
  have e3 := congrArg List.length e
  rw [List.length_take, List.length_drop, List.length_nil] at e3
  omega
theorem toV {l : Addr} {xs : List V} {n : Nat} {H : Hp} {Q : VK} (el : H l = some (.lst xs)) (k : ∀ (b : Addr) (H' : Hp), Same H H' → H b = none → H' b = some (.lst (xs.take n)) → Q (.ref b) H') : rSlL K (.ref l) none (some (n : Int)) H Q :=
  ⟨l, _, rfl, SqL.of el, fun p hp => k p _ (same_new hp) hp (by rw [upd_same, cut_none])⟩
theorem fromV {l : Addr} {xs : List V} {z : Int} {n : Nat} {H : Hp} {Q : VK} (el : H l = some (.lst xs)) (hz : z = (n : Nat)) (k : ∀ (b : Addr) (H' : Hp), Same H H' → H b = none → H' b = some (.lst (xs.drop n)) → Q (.ref b) H') : rSlL K (.ref l) (some z) none H Q := by
  subst hz
  exact ⟨l, _, rfl, SqL.of el, fun p hp => k p _ (same_new hp) hp (by rw [upd_same, cut_dropV])⟩
theorem midV {l : Addr} {xs : List V} {z : Int} {n : Nat} {H : Hp} {Q : VK} (el : H l = some (.lst xs)) (hz : z = ((n + 2 : Nat) : Int)) (k : ∀ (b : Addr) (H' : Hp), Same H H' → H b = none → H' b = some (.lst (cutV xs (some (n : Int)) (some ((n + 2 : Nat) : Int)))) → Q (.ref b) H') : rSlL K (.ref l) (some (n : Int)) (some z) H Q := by
  subst hz
  exact ⟨l, _, rfl, SqL.of el, fun p hp => k p _ (same_new hp) hp upd_same⟩
theorem catVV {a b : Addr} {xs ys : List V} {H : Hp} {Q : VK} (ea : H a = some (.lst xs)) (eb : H b = some (.lst ys)) (hz : xs.length + ys.length ≤ 1000) (k : ∀ (q : Addr) (H' : Hp), Same H H' → H q = none → H' q = some (.lst (xs ++ ys)) → Q (.ref q) H') : rCat (.ref a) (.ref b) H Q :=
  ⟨a, b, _, _, rfl, rfl, ea, eb, by rw [sizeLine_eq]; omega, fun p hp => k p _ (same_new hp) hp upd_same⟩
theorem ne_same {G : Hp} {a : V} {Qt : Bool → Hp → Prop} (hs : scal a a = true) (k : Qt false G) : rNe a a G (fun x H' => ∃ b, x = .bl b ∧ Qt b H') := ⟨hs, _, rfl, by rw [decide_eq_true rfl]; exact k⟩
theorem fresh8 {d g : Addr} {Gx : Hp} {b : Addr} (D : Deal d g Gx) (nb : Gx b = none) : b ≠ d ∧ b ≠ g := by
  obtain ⟨_, _, q1, q2, _⟩ := D
  exact ⟨fun z => (by rw [z, q1] at nb; cases nb), fun z => (by rw [z, q2] at nb; cases nb)⟩
abbrev nLaw08 : List Str := ["_law_script", "_law_odd", "_law_base", "_law_deal", "_law_turn", "_law_lines", "_law_again", "_law_at", "_law_form", "_law_pair", "_law_wrong", "_law_text", "_law_row_here", "_law_line"]
theorem sc_law08 : FnScope nLaw08 ["_law_script"] (defScope s_law) := ⟨rfl, rfl, rfl, by decide +kernel, rfl, by decide +kernel, by decide +kernel⟩
theorem ok_law08 {f fSo fDr fPi fRs fRt fHe : Addr} {fd dSo dDr dPi dRs dRt dHe : FuncData} (F : Fun K "law" "law" s_law f fd) (B : Bn mg) (hmax : mg "max" = none) (hmin : mg "min" = none) (henum : mg "enumerate" = none)
    (So_ : Def P w K mg base 1 "_law_source" ["_law_script", "_law_base"] (spSource K) fSo dSo) (Dr : Def P w K mg base 1 "_law_draw" ["_law_deal", "_law_wide"] spDraw fDr dDr) (Pi : Def P w K mg base 2 "_law_pick" ["_law_deal", "_law_some"] spPick fPi dPi) (Rs : Def P w K mg base 4 "_law_rows" ["_law_deal", "_law_amount"] spRows fRs dRs)
    (Rt : Def P w K mg base 1 "_law_row_text" ["_law_row_here"] spRowText fRt dRt) (He : Def P w K mg base 9 "_law_heard" ["_law_text"] spHeard8 fHe dHe) :
    FnOk P w K mg base CX0 12 f fd ["_law_script"] (spLaw K) := by
  refine F.ok sc_law08 (fun vs H Q E h => ?_) (fun cdv A outer s H vs Q E hr h => ?_)
  · obtain ⟨a, ns, rfl, _⟩ := h
    rfl
  · obtain ⟨a, ns, rfl, hS, hl, k⟩ := h
    have r1 := hr.mono (show 1 ≤ 11 by decide)
    have r2 := hr.mono (show 2 ≤ 11 by decide)
    have r4 := hr.mono (show 4 ≤ 11 by decide)
    have r9 := hr.mono (show 9 ≤ 11 by decide)
    refine ⟨_, (pss_cons (ps_set (i := 1) sc_law08.nd rfl (Or.inr rfl) (pe_lst (pa_cons pe_str (pa_cons pe_str (pa_cons pe_str (pa_cons pe_str (pa_cons pe_str (pa_cons pe_str (pa_cons pe_str (pa_cons pe_str (pa_cons pe_str (pa_cons pe_str pa_nil))))))))))))
      (pss_cons (ps_set (i := 1) sc_law08.nd rfl (Or.inr rfl) (pe_op op_cat (pv 1) (pe_lst (pa_cons pe_str (pa_cons pe_str (pa_cons pe_str (pa_cons pe_str (pa_cons pe_str (pa_cons pe_str pa_nil)))))))))
      (pss_cons (ps_for PassesOwn.never rfl (pi_range1 (by rfl) B.range_ (pa_cons (pe_callB (call_max2 rfl) (by rfl) hmax (by decide +kernel) (pa_cons pe_int (pa_cons (pe_callB (call_min2 rfl) (by rfl) hmin (by decide +kernel) (pa_cons pe_int (pa_cons (pe_callB call_len_seq (by rfl) B.len_ PySem.boot_len (pa_cons (pv 0) pa_nil)) pa_nil))) pa_nil))) pa_nil)) (pg_name (i := 2) sc_law08.nd rfl (Or.inl rfl))
      (pss_cons (ps_set (i := 3) sc_law08.nd rfl (Or.inl rfl) (pe_call So_.g r1 (by rfl) So_.m So_.kp So_.b .nil pass0 (pa_cons (pv 0) (pa_cons (pv 2) pa_nil))))
      (pss_one (ps_for PassesOwn.never rfl (pi_range1 (by rfl) B.range_ (pa_cons pe_int pa_nil)) (pg_name (i := 4) sc_law08.nd rfl (Or.inl rfl))
      (pss_cons (ps_setLc (i := 5) (own := [("_law_row_here", 12)]) (g := gName 12) (tt := tYes) (te := tCall spRowText [] E0 (tCons (tVar 12) tNil)) rfl sc_law08.nd rfl rfl (sw_true rfl rfl rfl (by decide +kernel)) (pi_list (pe_call Rs.g r4 (by rfl) Rs.m Rs.kp Rs.b .nil pass0 (pa_cons (pv 3) (pa_cons (pe_op op_add pe_int (pe_call Dr.g r1 (by rfl) Dr.m Dr.kp Dr.b .nil pass0 (pa_cons (pv 3) (pa_cons pe_int pa_nil)))) pa_nil))))
        (blkOk_by (N := nLaw08) (sc := defScope s_law) (by decide +kernel)) (fun _ _ _ _ _ => (pg_name (i := 12) sc_law08.nd rfl (Or.inl rfl))) (fun _ _ _ _ _ => pts_nil) (fun _ _ _ _ _ => (pe_call Rt.g r1 (by rfl) Rt.m Rt.kp Rt.b .nil pass0 (pa_cons (pv 12) pa_nil))))
      (pss_cons (ps_for PassesOwn.never rfl (pi_range1 (by rfl) B.range_ (pa_cons (pe_op op_add pe_int (pe_call Dr.g r1 (by rfl) Dr.m Dr.kp Dr.b .nil pass0 (pa_cons (pv 3) (pa_cons pe_int pa_nil)))) pa_nil)) (pg_name (i := 6) sc_law08.nd rfl (Or.inl rfl))
      (pss_cons (ps_par (i := 7) (j := 8) rfl sc_law08.nd rfl rfl (by decide) rfl rfl (pa_cons (pe_call Dr.g r1 (by rfl) Dr.m Dr.kp Dr.b .nil pass0 (pa_cons (pv 3) (pa_cons (pe_op op_add (pe_callB call_len_seq (by rfl) B.len_ PySem.boot_len (pa_cons (pv 5) pa_nil)) pe_int) pa_nil))) (pa_cons (pe_call Dr.g r1 (by rfl) Dr.m Dr.kp Dr.b .nil pass0 (pa_cons (pv 3) (pa_cons pe_int pa_nil))) pa_nil)) (by rfl))
      (pss_one (ps_if (PW.pt (pw_and (pt_cmpR op_eq (pv 8) pe_int (nomark _))
      (pw_and1 (pt_cmpR op_gt (pe_callB call_len_seq (by rfl) B.len_ PySem.boot_len (pa_cons (pv 5) pa_nil)) pe_int (nomark _))))) (pss_one (ps_set (i := 5) sc_law08.nd rfl (Or.inl rfl) (pe_op op_cat (pe_slice sl_list (pv 5) po_none (po_some (pv 7))) (pe_slice sl_list (pv 5) (po_some (pe_op op_add (pv 7) pe_int)) po_none))))
      (pss_one (ps_if (pt_cmpR op_eq (pv 8) pe_int (nomark _)) (pss_cons (ps_set (i := 9) sc_law08.nd rfl (Or.inl rfl) (pe_slice sl_list (pv 5) (po_some (pv 7)) (po_some (pe_op op_add (pv 7) pe_int))))
      (pss_one (ps_set (i := 5) sc_law08.nd rfl (Or.inl rfl) (pe_op op_cat (pe_op op_cat (pe_slice sl_list (pv 5) po_none (po_some (pv 7))) (pe_turned (pv 9) (po_some (pe_op op_sub pe_int pe_int)))) (pe_slice sl_list (pv 5) (po_some (pe_op op_add (pv 7) pe_int)) po_none))))) (pss_one (ps_set (i := 5) sc_law08.nd rfl (Or.inl rfl) (pe_op op_cat (pe_op op_cat (pe_slice sl_list (pv 5) po_none (po_some (pv 7))) (pe_lst (pa_cons (pe_call Pi.g r2 (by rfl) Pi.m Pi.kp Pi.b .nil pass0 (pa_cons (pv 3) (pa_cons (pv 1) pa_nil))) pa_nil))) (pe_slice sl_list (pv 5) (po_some (pv 7)) po_none))))))))))
      (pss_cons (ps_setLc (i := 10) (own := [("_law_at", 7), ("_law_line", 13)]) (g := gTup K 2 (gCons (gName 7) (gCons (gName 13) gNil))) (tt := tTest (tOp (rIn K false) (tVar 13) (tVar 1))) (te := tVar 7) rfl sc_law08.nd rfl rfl (sw_true rfl rfl rfl (by decide +kernel)) (pi_enumS (by rfl) henum (pa_cons (pv 5) pa_nil))
        (blkOk_by (N := nLaw08) (sc := defScope s_law) (by decide +kernel)) (fun _ _ _ _ _ => (pg_tup rfl (pgs_cons (pg_name (i := 7) sc_law08.nd rfl (Or.inl rfl)) (pgs_cons (pg_name (i := 13) sc_law08.nd rfl (Or.inl rfl)) pgs_nil)))) (fun _ _ _ _ _ => pts_one (pt_cmpR op_in_seq (pv 13) (pv 1) (by rfl))) (fun _ _ _ _ _ => (pv 7)))
      (pss_cons (ps_set (i := 11) sc_law08.nd rfl (Or.inl rfl) (pe_join pe_str (pv 5)))
      (pss_one (ps_if (PW.pt (pw_and (pt_cmpR op_ne (pv 11) pe_str (nomark _))
      (pw_and1 (pt_cmpR op_ne (pe_call He.g r9 (by rfl) He.m He.kp He.b .nil pass0 (pa_cons (pv 11) pa_nil)) (pe_ifExp (pt_cmpR (op_neD hr.units) (pv 10) (pe_lst pa_nil) (nomark _)) (pe_ix ix_list (pv 10) pe_int (fun _ _ => rfl)) (pv 11)) (nomark _))))) (pss_one (ps_ret pe_bl)) pss_nil))))))))))
      (pss_cons (ps_if (PW.pt (pw_or (pt_cmpR op_ne (pe_call He.g r9 (by rfl) He.m He.kp He.b .nil pass0 (pa_cons pe_str pa_nil)) pe_int (nomark _))
      (pw_or1 (pt_cmpR op_ne (pe_call He.g r9 (by rfl) He.m He.kp He.b .nil pass0 (pa_cons pe_str pa_nil)) pe_int (nomark _))))) (pss_one (ps_ret pe_bl)) pss_nil)
      (pss_one (ps_ret (pe_cmpR op_eq (pe_call He.g r9 (by rfl) He.m He.kp He.b .nil pass0 (pa_cons pe_str pa_nil)) pe_str (nomark _)))))))), ?_⟩
    refine ⟨by show 10 ≤ sizeLine; decide, fun l1 hl1 => ?_⟩
    generalize hHa : upd H l1 _ = Ha
    have el1 : Ha l1 = some (.lst (odds1.map V.str)) := by rw [← hHa]; exact upd_same
    have sa : Same H Ha := by rw [← hHa]; exact same_new hl1
    refine ⟨_, rfl, by show 6 ≤ sizeLine; decide, fun l2 hl2 => ?_⟩
    generalize hHb : upd Ha l2 _ = Hb
    have el2 : Hb l2 = some (.lst (odds2.map V.str)) := by rw [← hHb]; exact upd_same
    have sb : Same Ha Hb := by rw [← hHb]; exact same_new hl2
    refine catVV (sb _ _ el1) el2 (by decide) fun lo H0 sc nlo elo0 => ?_
    have elo : H0 lo = some (.lst (odds.map V.str)) := by
      rw [← List.map_append] at elo0
      exact elo0
    have hS' : SqL K H0 a (ns.map V.int) := ((sa.trans sb).trans sc).seq hS
    refine ⟨_, rfl, a, _, rfl, .inl hS', _, _, rfl, _, _, rfl, _, rfl, ?b1, ?b2, ?go⟩
    case b1 => have z := base_rng (L := ((ns.map V.int).length : Nat)) (Int.natCast_nonneg _); omega
    case b2 => have z := base_rng (L := ((ns.map V.int).length : Nat)) (Int.natCast_nonneg _); omega
    case go =>
    have hb := base_rng (L := ((ns.map V.int).length : Nat)) (Int.natCast_nonneg _)
    generalize (if (if (((ns.map V.int).length : Nat) : Int) < 3 then (((ns.map V.int).length : Nat) : Int) else 3) > 1 then (if (((ns.map V.int).length : Nat) : Int) < 3 then (((ns.map V.int).length : Nat) : Int) else 3) else 1) = jj at hb ⊢
    refine for_range (lo := 0) (n := jj.toNat) (fun i σ G => (∃ v2 v3 v4 v5 v6 v7 v8 v9 v10 v11 v12 v13, σ = [some (.ref a), some (.ref lo), v2, v3, v4, v5, v6, v7, v8, v9, v10, v11, v12, v13]) ∧ Same H0 G) ⟨⟨_, _, _, _, _, _, _, _, _, _, _, _, rfl⟩, Same.refl _⟩ ?turn ?last
    case last =>
      rintro σ G ⟨⟨v2, v3, v4, v5, v6, v7, v8, v9, v10, v11, v12, v13, rfl⟩, sG⟩
      refine ⟨["leave", ""], by decide +kernel, ⟨by decide, by decide, by decide +kernel, by decide +kernel⟩, fun rs e ok H1 t1 => (no_rows (x := "") (by decide) (odd_no (by decide)) e ok).elim, fun i hbi H1 t1 => ?_⟩
      have ei : i = 1 := bad_uniq hbi ⟨⟨"", rfl, odd_no (by decide)⟩, [.leave], by decide +kernel, fun r hr => by rw [List.mem_singleton.mp hr]; rfl⟩
      subst ei
      refine ⟨rfl, _, rfl, iteF ?_⟩
      refine ⟨["", "leave"], by decide +kernel, ⟨by decide, by decide, by decide +kernel, by decide +kernel⟩, fun rs e ok H1 t1 => (no_rows (x := "") (by decide) (odd_no (by decide)) e ok).elim, fun i hbi H1 t1 => ?_⟩
      have ei : i = 0 := bad_uniq hbi ⟨⟨"", rfl, odd_no (by decide)⟩, [], rfl, fun r hr => nomatch hr⟩
      subst ei
      refine ⟨rfl, _, rfl, iteF ?_⟩
      refine ⟨["leave", "count"], by decide +kernel, ⟨by decide, by decide, by decide +kernel, by decide +kernel⟩, fun rs e ok H1 t1 => ?_, fun i hbi H1 t1 => ?_⟩
      · have e1 : decide (V.str (Txt.join "\n" ["leave", "count"]) = V.str "leave\ncount") = true := by decide +kernel
        exact ⟨rfl, by rw [e1]; exact k _⟩
      · exact (no_bad (rs := [.leave, .count]) (by decide +kernel) (fun r hr => by
          rcases List.mem_cons.mp hr with rfl | hr
          · rfl
          · rw [List.mem_singleton.mp hr]; rfl) hbi).elim
    case turn =>
      rintro i σ G hi ⟨⟨v2, v3, v4, v5, v6, v7, v8, v9, v10, v11, v12, v13, rfl⟩, sG⟩
      rw [Int.zero_add]
      refine ⟨_, rfl, _, rfl, a, ns, i, rfl, sG.seq hS', hl, by omega, fun d g G1 s1 nd ng D1 => ?_⟩
      have eloG := sG _ _ elo
      have nlod : lo ≠ d := fun z => by rw [z, nd] at eloG; cases eloG
      have nlog : lo ≠ g := fun z => by rw [z, ng] at eloG; cases eloG
      have sGof : ∀ {Gx Gy : Hp}, Same G Gx → Kp d g Gx Gy → Same G Gy := fun {Gx Gy} sx kx b o e => by
        have hbd : b ≠ d := fun z => by rw [z, nd] at e; cases e
        have hbg : b ≠ g := fun z => by rw [z, ng] at e; cases e
        exact kx b o (sx _ _ e) hbd hbg
      refine ⟨6, rfl, by decide, by decide, ?_⟩
      refine for_range (lo := 0) (n := 6) (fun t σ G2 => (∃ v4 v5 v6 v7 v8 v9 v10 v11 v12 v13, σ = [some (.ref a), some (.ref lo), some (.int i), some (.ref d), v4, v5, v6, v7, v8, v9, v10, v11, v12, v13]) ∧ Deal d g G2 ∧ Same G G2) ⟨⟨_, _, _, _, _, _, _, _, _, _, rfl⟩, D1, s1⟩ ?inner ?out
      case out =>
        rintro σ G2 ⟨⟨v4, v5, v6, v7, v8, v9, v10, v11, v12, v13, rfl⟩, D2, s2⟩
        exact ⟨⟨_, _, _, _, _, _, _, _, _, _, _, _, rfl⟩, sG.trans s2⟩
      case inner =>
        rintro t σ G2 ht ⟨⟨v4, v5, v6, v7, v8, v9, v10, v11, v12, v13, rfl⟩, D2, s2⟩
        -- the lines
        refine ⟨_, rfl, _, rfl, d, g, 4, rfl, by decide, by decide, D2, fun nv G3 z0 z1 D3 k3 => ?_⟩
        obtain ⟨n, rfl⟩ : ∃ n : Nat, nv = n := ⟨nv.toNat, by omega⟩
        refine ⟨_, _, rfl, rfl, d, g, 1 + n, (by show [V.ref d, V.int (1 + (n : Int))] = [V.ref d, V.int ((1 + n : Nat) : Int)]; rw [Int.natCast_add]; rfl), by omega, D3, fun l ts rs G4 el hT hlen nl D4 k4 => ?_⟩
        refine ⟨l, rfl, ⟨_, SqL.of el⟩, fun D hD => ?_⟩
        have hln := Paired.length hT
        have sG4 := sGof (sGof s2 k3) k4
        have oks := okAll8 hT
        refine lc_list (K := K) (a := l) (xs := ts.map V.ref) (fun i H2 => H2 D = some (.lst ((rowTexts (rs.take i)).map V.str)) ∧ Same G4 H2) ⟨upd_same, same_new hD⟩ (fun i H2 _ z => SqL.of (z.2 _ _ el)) ?_ ?_
        · rintro i2 x H2 hx ⟨eD, u2⟩
          obtain ⟨q, hq', rfl⟩ := ref_at hx
          obtain ⟨r, hr', htu⟩ := pair_get hT hq'
          refine ⟨by rfl, _, rfl, q, r, rfl, ⟨u2 _ _ htu.1, htu.2⟩, fun H3 s3 => ?_⟩
          refine ⟨_, s3 _ _ eD, ?_, ?_, same_upd (u2.trans s3) hD⟩
          · rw [List.length_map, rowTexts_len, List.length_take]; exact small1000 (by omega)
          · rw [upd_same, take_next hr']
            unfold rowTexts
            rw [List.map_append, List.map_append]
            rfl
        rintro G5 ⟨eD0, u5⟩
        rw [List.length_map, hln, List.take_length] at eD0
        have D5 := D4.same u5
        have sG5 := sG4.trans u5
        have hLL : LL ((rowTexts rs).map V.str) := fun y hy => by
          obtain ⟨x, hx, rfl⟩ := List.mem_map.mp hy
          unfold rowTexts at hx
          obtain ⟨r, hr', rfl⟩ := List.mem_map.mp hx
          exact ⟨r.text, rfl, .inl ⟨r, oks r hr', rfl⟩⟩
        have hlz : ((rowTexts rs).map V.str).length = 1 + n := by rw [List.length_map, rowTexts_len, hlen]
        generalize (rowTexts rs).map V.str = ys0 at eD0 hLL hlz
        -- bent once or twice
        refine ⟨_, rfl, d, g, 2, rfl, by decide, by decide, D5, fun mv G6 y0 y1 D6 k6 => ?_⟩
        obtain ⟨m, rfl⟩ : ∃ m : Nat, mv = m := ⟨mv.toNat, by omega⟩
        refine ⟨_, _, rfl, rfl, (1 + m : Nat), (by show [V.int (1 + (m : Int))] = [V.int ((1 + m : Nat) : Int)]; rw [Int.natCast_add]; rfl), by omega, by omega, ?_⟩
        have nD : D ≠ d ∧ D ≠ g := fresh8 D4 hD
        refine for_range (lo := 0) (n := ((1 + m : Nat) : Int).toNat) (fun u σ G7 => (∃ (L : Addr) (ys : List V), (∃ v6 v7 v8 v9 v10 v11 v12 v13, σ = [some (.ref a), some (.ref lo), some (.int i), some (.ref d), some (.int ((0 : Int) + (t : Nat))), some (.ref L), v6, v7, v8, v9, v10, v11, v12, v13]) ∧ G7 L = some (.lst ys) ∧ L ≠ d ∧ L ≠ g ∧ LL ys ∧ ys ≠ [] ∧ ys.length ≤ 4 + 2 * u) ∧ Deal d g G7 ∧ Same G G7) ⟨⟨D, ys0, ⟨_, _, _, _, _, _, _, _, rfl⟩, k6 _ _ eD0 nD.1 nD.2, nD.1, nD.2, hLL, fun z => (by rw [z] at hlz; simp at hlz; omega), by omega⟩, D6, sGof sG5 k6⟩ ?bend ?fin
        case bend =>
          rintro u σ G7 hu ⟨⟨L, ys, ⟨v6, v7, v8, v9, v10, v11, v12, v13, rfl⟩, eL, Ld, Lg, hys, hne, hyz⟩, D7, sG7⟩
          have hu2 : u < 1 + m := by omega
          refine ⟨_, rfl, _, rfl, L, ys, rfl, .inl (SqL.of eL), _, _, rfl, rfl, d, g, _, rfl, by omega, by omega, D7, fun va G8 p0 p1 D8 k8 => ?_⟩
          obtain ⟨at', rfl⟩ : ∃ n : Nat, va = n := ⟨va.toNat, by omega⟩
          refine ⟨_, rfl, d, g, 3, rfl, by decide, by decide, D8, fun vf G9 q0 q1 D9 k9 => ?_⟩
          refine ⟨_, _, rfl, ?_⟩
          have eL9 := k9 _ _ (k8 _ _ eL Ld Lg) Ld Lg
          have sG9 := sGof (sGof sG7 k8) k9
          have elo9 := sG9 _ _ eloG
          have hpos : 0 < ys.length := List.length_pos_iff.mpr hne
          -- what each way brings
          have fin : ∀ (L2 : Addr) (zs : List V) (GZ : Hp) (w9 : Option V), GZ L2 = some (.lst zs) → L2 ≠ d → L2 ≠ g → LL zs → zs ≠ [] → zs.length ≤ ys.length + 2 → Deal d g GZ → Same G GZ →
              (∃ (L : Addr) (ys : List V), (∃ x6 x7 x8 x9 x10 x11 x12 x13, [some (V.ref a), some (.ref lo), some (.int i), some (.ref d), some (.int ((0 : Int) + (t : Nat))), some (.ref L2), some (.int ((0 : Int) + (u : Nat))), some (.int at'), some (.int vf), w9, v10, v11, v12, v13] = [some (.ref a), some (.ref lo), some (.int i), some (.ref d), some (.int ((0 : Int) + (t : Nat))), some (.ref L), x6, x7, x8, x9, x10, x11, x12, x13]) ∧ GZ L = some (.lst ys) ∧ L ≠ d ∧ L ≠ g ∧ LL ys ∧ ys ≠ [] ∧ ys.length ≤ 4 + 2 * (u + 1)) ∧ Deal d g GZ ∧ Same G GZ :=
            fun L2 zs GZ w9 h1 h2 h3 h4 h5 h6 h7 h8 => ⟨⟨L2, zs, ⟨_, _, _, _, _, _, _, _, rfl⟩, h1, h2, h3, h4, h5, by omega⟩, h7, h8⟩
          refine ⟨_, rfl, rfl, _, rfl, ?_⟩
          refine ite2 (fun _ => ?_) (fun _ => iteF ?_)
          · refine ⟨_, rfl, L, ys, rfl, .inl (SqL.of eL9), _, _, rfl, rfl, _, rfl, ?_⟩
            refine ite2 (fun hgt => ?_) (fun _ => ?_)
            · have hgt' : (1 : Int) < (ys.length : Nat) := of_decide_eq_true hgt
              refine ⟨_, rfl, _, rfl, _, rfl, ?_⟩
              refine toV eL9 fun b1 K1 t1 nb1 eb1 => ?_
              refine ⟨_, rfl, _, rfl, _, _, rfl, rfl, _, rfl, ?_⟩
              unfold tNoPart
              refine fromV (z := ((at' : Nat) : Int) + 1) (n := at' + 1) (t1 _ _ eL9) (by omega) fun b2 K2 t2 nb2 eb2 => ?_
              refine catVV (t2 _ _ eb1) eb2 (by rw [List.length_take, List.length_drop]; omega) fun b3 K3 t3 nb3 eb3 => ?_
              have t13 := (t1.trans t2).trans t3
              have f3 := fresh8 ((D9.same t1).same t2) nb3
              refine fin b3 _ K3 _ eb3 f3.1 f3.2 ((hys.take _).app (hys.drop _)) (fun z => ?_) (by rw [List.length_append, List.length_take, List.length_drop]; omega) (D9.same t13) (sG9.trans t13)
              have z1 := congrArg List.length z
              rw [List.length_append, List.length_take, List.length_drop, List.length_nil] at z1
              omega
            · refine ⟨_, rfl, rfl, _, rfl, ?_⟩
              refine ite2 (fun _ => ?_) (fun _ => ?_)
              · refine ⟨_, rfl, _, rfl, _, rfl, _, rfl, _, _, rfl, rfl, _, rfl, ?_⟩
                refine midV (n := at') eL9 (by omega) fun b1 K1 t1 nb1 eb1 => ?_
                obtain ⟨pz, pn⟩ := cut_mid ys at'
                have pl := hys.cut (some (at' : Int)) (some ((at' + 2 : Nat) : Int))
                generalize cutV ys (some (at' : Int)) (some ((at' + 2 : Nat) : Int)) = ps at eb1 pz pn pl
                refine ⟨_, rfl, _, rfl, _, rfl, ?_⟩
                refine toV (t1 _ _ eL9) fun b2 K2 t2 nb2 eb2 => ?_
                refine ⟨_, rfl, b1, _, rfl, _, _, rfl, rfl, _, rfl, rfl, SqL.of (t2 _ _ eb1), fun p3 hp3 => ?_⟩
                have t3 : Same K2 (upd K2 p3 (.lst ps.reverse)) := same_new hp3
                refine catVV (t3 _ _ eb2) upd_same (by rw [List.length_take, List.length_reverse]; omega) fun b4 K4 t4 nb4 eb4 => ?_
                have t14 := (t1.trans t2).trans (t3.trans t4)
                refine ⟨_, rfl, _, rfl, _, _, rfl, rfl, _, rfl, ?_⟩
                unfold tNoPart
                refine fromV (z := ((at' : Nat) : Int) + 2) (n := at' + 2) (t14 _ _ eL9) (by omega) fun b5 K5 t5 nb5 eb5 => ?_
                refine catVV (t5 _ _ eb4) eb5 (by rw [List.length_append, List.length_take, List.length_reverse, List.length_drop]; omega) fun b6 K6 t6 nb6 eb6 => ?_
                have t56 := t5.trans t6
                have f6 := fresh8 ((D9.same t14).same t5) nb6
                refine fin b6 _ K6 _ eb6 f6.1 f6.2 (((hys.take _).app pl.rev).app (hys.drop _)) (fun z => ?_) (by rw [List.length_append, List.length_append, List.length_take, List.length_reverse, List.length_drop]; omega) ((D9.same t14).same t56) ((sG9.trans t14).trans t56)
                have z1 := List.append_eq_nil_iff.mp (List.append_eq_nil_iff.mp z).1
                have z2 := congrArg List.length z1.1
                rw [List.length_take, List.length_nil] at z2
                exact pn (by omega) hne (List.reverse_eq_nil_iff.mp z1.2)
              · refine ⟨_, rfl, _, rfl, _, rfl, ?_⟩
                refine toV eL9 fun b1 K1 t1 nb1 eb1 => ?_
                have D10 := D9.same t1
                have f1 := fresh8 D9 nb1
                refine ⟨_, rfl, _, rfl, d, g, lo, _, rfl, D10, t1 _ _ elo9, nlog, by decide, by decide, fun x K2 hx D11 k11 => ?_⟩
                obtain ⟨o, hoo, rfl⟩ : ∃ o ∈ odds, x = V.str o := by
                  obtain ⟨o, h1, h2⟩ := List.mem_map.mp hx
                  exact ⟨o, h1, h2.symm⟩
                refine ⟨by show 1 ≤ sizeLine; decide, fun b2 nb2 => ?_⟩
                have t2 : Same K2 (upd K2 b2 (.lst [V.str o])) := same_new nb2
                have sG11 := (sGof (sG9.trans t1) k11).trans t2
                have D12 := D11.same t2
                have eL11 := t2 _ _ (k11 _ _ (t1 _ _ eL9) Ld Lg)
                refine catVV (t2 _ _ (k11 _ _ eb1 f1.1 f1.2)) upd_same (by rw [List.length_take]; show _ + 1 ≤ _; omega) fun b3 K3 t3 nb3 eb3 => ?_
                refine ⟨_, rfl, _, rfl, _, rfl, ?_⟩
                unfold tNoPart
                refine fromV (n := at') (t3 _ _ eL11) rfl fun b4 K4 t4 nb4 eb4 => ?_
                refine catVV (t4 _ _ eb3) eb4 (by rw [List.length_append, List.length_take, List.length_drop]; show _ + 1 + _ ≤ _; omega) fun b5 K5 t5 nb5 eb5 => ?_
                have t35 := (t3.trans t4).trans t5
                have f5 := fresh8 ((D12.same t3).same t4) nb5
                refine fin b5 _ K5 _ eb5 f5.1 f5.2 (((hys.take _).app (LL.one (.inr hoo))).app (hys.drop _)) (fun z => ?_) (by rw [List.length_append, List.length_append, List.length_take, List.length_drop]; show _ + 1 + _ ≤ _; omega) (D12.same t35) (sG11.trans t35)
                have z1 := List.append_eq_nil_iff.mp (List.append_eq_nil_iff.mp z).1
                exact List.cons_ne_nil _ _ z1.2
          · refine ⟨_, rfl, rfl, _, rfl, ?_⟩
            refine ite2 (fun _ => ?_) (fun _ => ?_)
            · refine ⟨_, rfl, _, rfl, _, rfl, _, rfl, _, _, rfl, rfl, _, rfl, ?_⟩
              refine midV (n := at') eL9 (by omega) fun b1 K1 t1 nb1 eb1 => ?_
              obtain ⟨pz, pn⟩ := cut_mid ys at'
              have pl := hys.cut (some (at' : Int)) (some ((at' + 2 : Nat) : Int))
              generalize cutV ys (some (at' : Int)) (some ((at' + 2 : Nat) : Int)) = ps at eb1 pz pn pl
              refine ⟨_, rfl, _, rfl, _, rfl, ?_⟩
              refine toV (t1 _ _ eL9) fun b2 K2 t2 nb2 eb2 => ?_
              refine ⟨_, rfl, b1, _, rfl, _, _, rfl, rfl, _, rfl, rfl, SqL.of (t2 _ _ eb1), fun p3 hp3 => ?_⟩
              have t3 : Same K2 (upd K2 p3 (.lst ps.reverse)) := same_new hp3
              refine catVV (t3 _ _ eb2) upd_same (by rw [List.length_take, List.length_reverse]; omega) fun b4 K4 t4 nb4 eb4 => ?_
              have t14 := (t1.trans t2).trans (t3.trans t4)
              refine ⟨_, rfl, _, rfl, _, _, rfl, rfl, _, rfl, ?_⟩
              unfold tNoPart
              refine fromV (z := ((at' : Nat) : Int) + 2) (n := at' + 2) (t14 _ _ eL9) (by omega) fun b5 K5 t5 nb5 eb5 => ?_
              refine catVV (t5 _ _ eb4) eb5 (by rw [List.length_append, List.length_take, List.length_reverse, List.length_drop]; omega) fun b6 K6 t6 nb6 eb6 => ?_
              have t56 := t5.trans t6
              have f6 := fresh8 ((D9.same t14).same t5) nb6
              refine fin b6 _ K6 _ eb6 f6.1 f6.2 (((hys.take _).app pl.rev).app (hys.drop _)) (fun z => ?_) (by rw [List.length_append, List.length_append, List.length_take, List.length_reverse, List.length_drop]; omega) ((D9.same t14).same t56) ((sG9.trans t14).trans t56)
              have z1 := List.append_eq_nil_iff.mp (List.append_eq_nil_iff.mp z).1
              have z2 := congrArg List.length z1.1
              rw [List.length_take, List.length_nil] at z2
              exact pn (by omega) hne (List.reverse_eq_nil_iff.mp z1.2)
            · refine ⟨_, rfl, _, rfl, _, rfl, ?_⟩
              refine toV eL9 fun b1 K1 t1 nb1 eb1 => ?_
              have D10 := D9.same t1
              have f1 := fresh8 D9 nb1
              refine ⟨_, rfl, _, rfl, d, g, lo, _, rfl, D10, t1 _ _ elo9, nlog, by decide, by decide, fun x K2 hx D11 k11 => ?_⟩
              obtain ⟨o, hoo, rfl⟩ : ∃ o ∈ odds, x = V.str o := by
                obtain ⟨o, h1, h2⟩ := List.mem_map.mp hx
                exact ⟨o, h1, h2.symm⟩
              refine ⟨by show 1 ≤ sizeLine; decide, fun b2 nb2 => ?_⟩
              have t2 : Same K2 (upd K2 b2 (.lst [V.str o])) := same_new nb2
              have sG11 := (sGof (sG9.trans t1) k11).trans t2
              have D12 := D11.same t2
              have eL11 := t2 _ _ (k11 _ _ (t1 _ _ eL9) Ld Lg)
              refine catVV (t2 _ _ (k11 _ _ eb1 f1.1 f1.2)) upd_same (by rw [List.length_take]; show _ + 1 ≤ _; omega) fun b3 K3 t3 nb3 eb3 => ?_
              refine ⟨_, rfl, _, rfl, _, rfl, ?_⟩
              unfold tNoPart
              refine fromV (n := at') (t3 _ _ eL11) rfl fun b4 K4 t4 nb4 eb4 => ?_
              refine catVV (t4 _ _ eb3) eb4 (by rw [List.length_append, List.length_take, List.length_drop]; show _ + 1 + _ ≤ _; omega) fun b5 K5 t5 nb5 eb5 => ?_
              have t35 := (t3.trans t4).trans t5
              have f5 := fresh8 ((D12.same t3).same t4) nb5
              refine fin b5 _ K5 _ eb5 f5.1 f5.2 (((hys.take _).app (LL.one (.inr hoo))).app (hys.drop _)) (fun z => ?_) (by rw [List.length_append, List.length_append, List.length_take, List.length_drop]; show _ + 1 + _ ≤ _; omega) (D12.same t35) (sG11.trans t35)
              have z1 := List.append_eq_nil_iff.mp (List.append_eq_nil_iff.mp z).1
              exact List.cons_ne_nil _ _ z1.2
            
        case fin =>
          rintro σ G7 ⟨⟨L, ys, ⟨v6, v7, v8, v9, v10, v11, v12, v13, rfl⟩, eL, Ld, Lg, hys, hne, hyz⟩, D7, sG7⟩
          obtain ⟨xs, rfl, hxs⟩ := hys.strs
          have hxz : xs.length ≤ 8 := by rw [List.length_map] at hyz; omega
          have hxn : xs ≠ [] := fun z => hne (by rw [z]; rfl)
          refine ⟨_, rfl, L, xs.map V.str, rfl, .inl ⟨SqL.of eL, fun D2 hD2 => lc_enumL (K := K) (a := L) (xs := xs.map V.str) (fun j H2 => H2 D2 = some (.lst ((wr (xs.take j) 0).map V.int)) ∧ Same G7 H2) ⟨upd_same, same_new hD2⟩ (fun j H2 _ z => z.2.seq (SqL.of eL)) ?each ?done⟩⟩
          case each =>
            rintro j x U H2 hx ⟨eD, u2⟩ hU
            obtain ⟨z, hz', rfl⟩ : ∃ z, xs[j]? = some z ∧ x = V.str z := by
              rw [List.getElem?_map] at hx
              cases e : xs[j]? with
              | none => rw [e] at hx; cases hx
              | some p => rw [e] at hx; exact ⟨p, rfl, (Option.some.inj hx).symm⟩
            have u3 : Same H2 (upd H2 U (.tup [.int (j : Nat), .str z])) := same_new hU
            have hjl : j < xs.length := (List.getElem?_eq_some_iff.mp hz').1
            refine ⟨U, _, rfl, SqT.of upd_same, rfl, _, _, rfl, _, _, rfl, rfl, ?_⟩
            refine ⟨by rfl, _, rfl, _, rfl, lo, _, rfl, .inl (SqL.of ((u2.trans u3) _ _ (sG7 _ _ eloG))), rfl, flat_strs8 odds, _, rfl, ?_⟩
            rw [inV_strs8]
            have stp : wr (xs.take (j + 1)) 0 = wr (xs.take j) 0 ++ (if z ∈ odds then [(j : Int)] else []) := by
              rw [take_next hz', wr_snoc, List.length_take, Nat.min_eq_left (Nat.le_of_lt hjl), Nat.zero_add]
            refine ite2 (fun hc => ?_) (fun hc => ?_)
            · have hc' : z ∈ odds := of_decide_eq_true hc
              rw [if_pos hc'] at stp
              refine ⟨_, rfl, _, u3 _ _ eD, ?_, ?_, same_upd (u2.trans u3) hD2⟩
              · rw [List.length_map]
                have := wr_len (xs.take j) 0
                rw [List.length_take] at this
                exact small1000 (by omega)
              · rw [upd_same, stp, List.map_append]
                rfl
            · have hc' : z ∉ odds := fun q => hc (decide_eq_true q)
              rw [if_neg hc', List.append_nil] at stp
              rw [stp]
              exact ⟨u3 _ _ eD, u2.trans u3⟩
          case done =>
            rintro H2 ⟨eD, u2⟩
            rw [List.length_map, List.take_length] at eD
            have eL2 := u2 _ _ eL
            refine ⟨⟨_, rfl⟩, _, rfl, _, L, xs, rfl, rfl, .inl (SqL.of eL2), ?small, ?rest⟩
            case small =>
              have h3 := sum_lens xs fun x hx => (line_sm (hxs x hx)).2
              have h4 : Str.length "\n" = 1 := by decide +kernel
              rw [h4]
              omega
            case rest =>
              have D8 := D7.same u2
              have sG8 := sG7.trans u2
              have stay : ∀ (G9 : Hp) (w11 : Option V), Same H2 G9 → (∃ x4 x5 x6 x7 x8 x9 x10 x11 x12 x13, [some (V.ref a), some (.ref lo), some (.int i), some (.ref d), some (.int ((0 : Int) + (t : Nat))), some (.ref L), v6, v7, v8, v9, some (.ref D2), w11, v12, v13] = [some (.ref a), some (.ref lo), some (.int i), some (.ref d), x4, x5, x6, x7, x8, x9, x10, x11, x12, x13]) ∧ Deal d g G9 ∧ Same G G9 := fun G9 w11 z => ⟨⟨_, _, _, _, _, _, _, _, _, _, rfl⟩, D8.same z, sG8.trans z⟩
              refine ⟨_, rfl, rfl, _, rfl, ?_⟩
              by_cases he : Txt.join "\n" xs = ""
              · have e1 : (!decide (V.str (Txt.join "\n" xs) = V.str "")) = false := by rw [he, decide_eq_true rfl]; rfl
                rw [e1]
                exact iteF (iteF (stay H2 _ (Same.refl _)))
              · have e1 : (!decide (V.str (Txt.join "\n" xs) = V.str "")) = true := by rw [decide_eq_false fun z => he (V.str.inj z)]; rfl
                rw [e1]
                refine iteT ?_
                refine ⟨_, rfl, xs, rfl, lines_of hxn (by omega) hxs he, fun rs2 e ok H3 t3 => ?_, fun j hbj H3 t3 => ?_⟩
                · refine ⟨_, rfl, by show 0 ≤ sizeLine; decide, fun e2 he2 => ?_⟩
                  have t4 : Same H3 (upd H3 e2 (.lst [])) := same_new he2
                  have eD' := (t3.trans t4) _ _ eD
                  refine ⟨_, _, dp_ints eD', .lst (SqL.of upd_same) .nil, sh_ints _, sh_nil, _, rfl, ?_⟩
                  rw [eqv_nil]
                  have hw : wr xs 0 = [] := by
                    cases en : wr xs 0 with
                    | nil => rfl
                    | cons n r =>
                      obtain ⟨j, _, hbj⟩ := wr_cons hxs en
                      exact (no_bad e ok hbj).elim
                  rw [hw]
                  refine iteF ?_
                  refine ⟨_, rfl, ne_same rfl (iteF ?_)⟩
                  exact stay _ _ (t3.trans t4)
                · refine ⟨_, rfl, by show 0 ≤ sizeLine; decide, fun e2 he2 => ?_⟩
                  have t4 : Same H3 (upd H3 e2 (.lst [])) := same_new he2
                  have eD' := (t3.trans t4) _ _ eD
                  refine ⟨_, _, dp_ints eD', .lst (SqL.of upd_same) .nil, sh_ints _, sh_nil, _, rfl, ?_⟩
                  rw [eqv_nil]
                  cases en : wr xs 0 with
                  | nil =>
                    obtain ⟨rs2, e, ok⟩ := rows_all8 hxs (wr_nil en)
                    exact (no_bad e ok hbj).elim
                  | cons n r =>
                    obtain ⟨j2, ej, hb2⟩ := wr_cons hxs en
                    have e3 : j = j2 := bad_uniq hbj hb2
                    rw [Nat.zero_add] at ej
                    rw [en] at eD'
                    refine iteT ?_
                    have head : atI ((n :: r).map V.int) ((0 : Nat) : Int) = some (.int n) := atI_nat rfl
                    refine ⟨_, rfl, D2, _, _, .int n, rfl, rfl, SqL.of eD', head, ?_⟩
                    rw [ej, ← e3]
                    exact ne_same rfl (iteF (stay _ _ (t3.trans t4)))
end
end Ow
end
section
namespace Ow
open PySem L2 Own
section
open PySem.W (mg_of mg_none_of)
theorem kit_own {K : PySem.W.Frag} {t : Value} {C : Addr} {b : Bool} (h1 : PySem.W.isClsIn K C = true) (h2 : PySem.W.typeIn K (.ref C) = some (.type "type")) (h3 : PySem.W.subIn K t (.ref C) = some b) (h0 : (t == .ref C) = false ∨ b = true) : PySem.W.kitOne K t (.ref C) = some b := by
  unfold PySem.W.kitOne
  split
  · rename_i e
    rcases h0 with h0 | h0
    · rw [h0] at e; cases e
    · rw [h0]
  · have e : ((PySem.W.clsIn K C).isSome && PySem.W.typeIn K (.ref C) == some (.type "type")) = true := by
      have h1' : (PySem.W.clsIn K C).isSome = true := h1
      rw [h1', h2]; rfl
    show (if ((PySem.W.clsIn K C).isSome && PySem.W.typeIn K (.ref C) == some (.type "type")) = true then PySem.W.subIn K t (.ref C) else none) = some b
    rw [if_pos e]
    exact h3
theorem kit_tp {K : PySem.W.Frag} {C : Addr} {T : String} {b : Bool} (hm : PySem.W.kitMeta T = true) (h : PySem.W.subIn K (.ref C) (.type T) = some b) : PySem.W.kitOne K (.ref C) (.type T) = some b := by
  have e : ((Value.ref C) == (Value.type T)) = false := beq_eq_false_iff_ne.mpr fun z => nomatch z
  show (if ((Value.ref C) == (Value.type T)) = true then some true else if PySem.W.kitMeta T = true then PySem.W.subIn K (.ref C) (.type T) else none) = some b
  rw [e, if_neg Bool.false_ne_true, if_pos hm]
  exact h
theorem bfR {x y : Addr} (h : x ≠ y) : (Value.ref x == Value.ref y) = false := beq_eq_false_iff_ne.mpr fun z => h (Value.ref.inj z)
theorem KTup.of {K : PySem.W.Frag} {a : Addr} {xs : List V} {its : List Value} {n : Nat} {od : Option Addr} {sl : Array (Option Value)} (l : K.lookup a = some ⟨.type "tuple", od, .seq its.toArray n, sl⟩) (hz : its.length ≤ 1000) (r : Vals xs its) : KTup K a xs := fun H =>
  .inr ⟨_, its.toArray, n, l, rfl, rfl, by rw [List.size_toArray]; exact small_len hz, r⟩
theorem fund_mk {K : PySem.W.Frag} {x qual : Str} {params : Arguments} {body : List Stmt} {scope : Scope} {dvs : List V} {f T : Addr} {oc kV doc pm cd ct tc : Value} {od an td : Option Addr} {osl tsl : Array (Option Value)} {its : List Value} {n : Nat}
    (l : K.lookup f = some ⟨oc, od, .func (PySem.W.fnOf x qual params body scope (.ref T) kV doc pm an cd ct), osl⟩) (c : PySem.W.codeIn K cd qual = true) (t : K.lookup T = some ⟨tc, td, .seq its.toArray n, tsl⟩) (v : Vals dvs its) (hd : dvs ≠ []) (k : PySem.W.keepIn K (.ref f) = true) :
    FunD K x qual params body scope dvs [] f (PySem.W.fnOf x qual params body scope (.ref T) kV doc pm an cd ct) :=
  ⟨⟨oc, od, .ref T, kV, doc, pm, an, cd, ct, osl, rfl, l, c, .inr ⟨hd, T, _, its, n, rfl, t, rfl, v⟩, .inl rfl⟩, k⟩
theorem cmet_mk {K : PySem.W.Frag} {C p g : Addr} {mc : Value} {m : Str} {rest : List Value} (h1 : PySem.W.findCls K (.ref C) mc m = some (.get (.builtin "classmethod.__get__") (.ref p) .none (.ref C))) (h2 : PySem.W.recIn K p "classmethod" = some (.ref g :: rest)) (h3 : PySem.W.fnIn K g = true) : ClX.CMet K C mc m p g := ⟨h1, ⟨rest, h2⟩, h3⟩
theorem nf_self {K : PySem.W.Frag} {C : Addr} : PySem.W.notFirst K C (.ref C) = true := by simp [PySem.W.notFirst]
theorem all_mk {P : Program} {w : World} {K : PySem.W.Frag} {h : Heap} {mg : Str → Option Value} {fa : Addr} (X : K.In h) (G : h.Ns mainGlobals mg) (hfa : mg "law" = some (.ref fa))
    {row keep tries limit leave soft count lend gs ge fKeep fTries fLimit fSoft kKept kLives kAsked kMTries kFaults wKeep wTries wLimit wLeave wSoft wCount wLend pRead fRead fEvery fInt fOne fChk S gsS geS glS fInit d0 fSeq fOf pReadS fReadS fIn CW CR' CI CT fXT fSo fDr fPi fMx fRo fRs fRt fHe fLaw : Addr} {dKeep dTries dLimit dSoft dwKeep dwTries dwLimit dwLeave dwSoft dwCount dwLend dStr dRead dEvery dInt dOne dChk dInit dSeq dOf dsS dReadS dIn dXT dSo dDr dPi dMx dRo dRs dRt dHe dLaw : FuncData} {tk10 : Tok} {tk11 : Tok} {on1 : Nat} {oo1 : Option Addr} {os1 : Array (Option Value)} {tk20 : Tok} {tk21 : Tok} {tk22 : Tok} {tk23 : Tok} {on2 : Nat} {oo2 : Option Addr} {os2 : Array (Option Value)} {tk30 : Tok} {tk31 : Tok} {tk32 : Tok} {on3 : Nat} {oo3 : Option Addr} {os3 : Array (Option Value)} {tk40 : Tok} {tk41 : Tok} {tk42 : Tok} {tk43 : Tok} {tk44 : Tok} {tk45 : Tok} {on4 : Nat} {oo4 : Option Addr} {os4 : Array (Option Value)} {tk50 : Tok} {tk51 : Tok} {on5 : Nat} {oo5 : Option Addr} {os5 : Array (Option Value)} {on0 : Nat} {oo0 : Option Addr} {os0 : Array (Option Value)} {nmT : Str} {qT : Str} {NTT : Addr} {bsT : List Value} {snT : List Str} {sbT : List Value} {abT : Bool} {coT : Option Bool} {ddT : Option Addr} {x0T : Option Value} {x1T : Option Value} {x2T : Option Value} {x3T : Option Value} {x5T : Option Value}
    (aRow : PySem.W.nsIn K mainGlobals "Row" = some (some (.ref row)))
    (aKeep : PySem.W.nsIn K mainGlobals "Keep" = some (some (.ref keep)))
    (aTries : PySem.W.nsIn K mainGlobals "Tries" = some (some (.ref tries)))
    (aLimit : PySem.W.nsIn K mainGlobals "Limit" = some (some (.ref limit)))
    (aLeave : PySem.W.nsIn K mainGlobals "Leave" = some (some (.ref leave)))
    (aSoft : PySem.W.nsIn K mainGlobals "Soft" = some (some (.ref soft)))
    (aCount : PySem.W.nsIn K mainGlobals "Count" = some (some (.ref count)))
    (aLend : PySem.W.nsIn K mainGlobals "Lend" = some (some (.ref lend)))
    (oKeep : OwnC K keep gs ge)
    (oTries : OwnC K tries gs ge)
    (oLimit : OwnC K limit gs ge)
    (oLeave : OwnC K leave gs ge)
    (oSoft : OwnC K soft gs ge)
    (oCount : OwnC K count gs ge)
    (oLend : OwnC K lend gs ge)
    (sKeep : PySem.W.subIn K (.ref keep) (.ref row) = some true)
    (sTries : PySem.W.subIn K (.ref tries) (.ref row) = some true)
    (sLimit : PySem.W.subIn K (.ref limit) (.ref row) = some true)
    (sLeave : PySem.W.subIn K (.ref leave) (.ref row) = some true)
    (sSoft : PySem.W.subIn K (.ref soft) (.ref row) = some true)
    (sCount : PySem.W.subIn K (.ref count) (.ref row) = some true)
    (sLend : PySem.W.subIn K (.ref lend) (.ref row) = some true)
    (iRow : PySem.W.isClsIn K row = true)
    (tRow : PySem.W.typeIn K (.ref row) = some (.type "type"))
    (nW : PySem.W.findIn K (.ref keep) "what" = some none)
    (nL : PySem.W.findIn K (.ref keep) "life" = some none)
    (tM : PySem.W.findIn K (.ref tries) "many" = some none)
    (tO : PySem.W.findIn K (.ref tries) "on" = some none)
    (lM : PySem.W.findIn K (.ref limit) "many" = some none)
    (sO : PySem.W.findIn K (.ref soft) "on" = some none)
    (mKeep : Mk K keep fKeep)
    (mTries : Mk K tries fTries)
    (mLimit : Mk K limit fLimit)
    (mSoft : Mk K soft fSoft)
    (mLeave : MkO K leave)
    (mCount : MkO K count)
    (mLend : MkO K lend)
    (aKept : PySem.W.nsIn K mainGlobals "KEPT_ANSWERS" = some (some (.ref kKept)))
    (lKept : K.lookup kKept = some ⟨.type "tuple", oo1, .seq [.str "good" tk10, .str "all" tk11].toArray on1, os1⟩)
    (aLives : PySem.W.nsIn K mainGlobals "LIVES" = some (some (.ref kLives)))
    (lLives : K.lookup kLives = some ⟨.type "tuple", oo2, .seq [.int 0 tk20, .int 1 tk21, .int 2 tk22, .int 3 tk23].toArray on2, os2⟩)
    (aAsked : PySem.W.nsIn K mainGlobals "MOST_ASKED" = some (some (.ref kAsked)))
    (lAsked : K.lookup kAsked = some ⟨.type "tuple", oo3, .seq [.int 1 tk30, .int 2 tk31, .int 3 tk32].toArray on3, os3⟩)
    (aMTries : PySem.W.nsIn K mainGlobals "MOST_TRIES" = some (some (.ref kMTries)))
    (lMTries : K.lookup kMTries = some ⟨.type "tuple", oo4, .seq [.int 1 tk40, .int 2 tk41, .int 3 tk42, .int 4 tk43, .int 5 tk44, .int 6 tk45].toArray on4, os4⟩)
    (aFaults : PySem.W.nsIn K mainGlobals "FAULTS" = some (some (.ref kFaults)))
    (lFaults : K.lookup kFaults = some ⟨.type "tuple", oo5, .seq [.str "fault" tk50, .str "all" tk51].toArray on5, os5⟩)
    (FKeep : FunD K "__init__" "Keep.__init__" (defArgs s_Keep_init) (defBody s_Keep_init) (defScope s_Keep_init) [.str "good", .non] [] fKeep dKeep)
    (FTries : FunD K "__init__" "Tries.__init__" (defArgs s_Tries_init) (defBody s_Tries_init) (defScope s_Tries_init) [.str "fault"] [] fTries dTries)
    (FLimit : Fun K "__init__" "Limit.__init__" s_Limit_init fLimit dLimit)
    (FSoft : FunD K "__init__" "Soft.__init__" (defArgs s_Soft_init) (defBody s_Soft_init) (defScope s_Soft_init) [.str "fault"] [] fSoft dSoft)
    (WKeep : Meth K keep "words" wKeep)
    (VKeep : Fun K "words" "Keep.words" s_Keep_words wKeep dwKeep)
    (WTries : Meth K tries "words" wTries)
    (VTries : Fun K "words" "Tries.words" s_Tries_words wTries dwTries)
    (WLimit : Meth K limit "words" wLimit)
    (VLimit : Fun K "words" "Limit.words" s_Limit_words wLimit dwLimit)
    (WLeave : Meth K leave "words" wLeave)
    (VLeave : Fun K "words" "Leave.words" s_Leave_words wLeave dwLeave)
    (WSoft : Meth K soft "words" wSoft)
    (VSoft : Fun K "words" "Soft.words" s_Soft_words wSoft dwSoft)
    (WCount : Meth K count "words" wCount)
    (VCount : Fun K "words" "Count.words" s_Count_words wCount dwCount)
    (WLend : Meth K lend "words" wLend)
    (VLend : Fun K "words" "Lend.words" s_Lend_words wLend dwLend)
    (FStr : Fun K "__str__" "Row.__str__" s_Row_str gs dStr)
    (CR : ClX.CRead K row (.type "type"))
    (CM : ClX.CMet K row (.type "type") "read" pRead fRead)
    (FRead : Fun K "read" "Row.read" s_Row_read fRead dRead)
    (aEvery : PySem.W.nsIn K mainGlobals "every_row" = some (some (.ref fEvery)))
    (FEvery : Fun K "every_row" "every_row" s_every_row fEvery dEvery)
    (aInt : PySem.W.nsIn K mainGlobals "is_integer" = some (some (.ref fInt)))
    (FInt : Fun K "is_integer" "is_integer" s_is_integer fInt dInt)
    (aOne : PySem.W.nsIn K mainGlobals "is_one_of" = some (some (.ref fOne)))
    (FOne : Fun K "is_one_of" "is_one_of" s_is_one_of fOne dOne)
    (aChk : PySem.W.nsIn K mainGlobals "check_argument" = some (some (.ref fChk)))
    (FChk : Fun K "check_argument" "check_argument" s_check_argument fChk dChk)
    (z_isinstance : PySem.W.nsIn K mainGlobals "isinstance" = some none)
    (z_str : PySem.W.nsIn K mainGlobals "str" = some none)
    (z_int : PySem.W.nsIn K mainGlobals "int" = some none)
    (z_bool : PySem.W.nsIn K mainGlobals "bool" = some none)
    (aStack : PySem.W.nsIn K mainGlobals "Stack" = some (some (.ref S)))
    (oStack : OwnC K S gsS geS)
    (nRows : PySem.W.findIn K (.ref S) "rows" = some none)
    (lnS : PySem.W.findIn K (.ref S) "__len__" = some (some (.ref glS)))
    (lfS : PySem.W.isFn K (.ref glS) = true)
    (mStack : Mk K S fInit)
    (FInit : FunD K "__init__" "Stack.__init__" (defArgs s_Stack_init) (defBody s_Stack_init) (defScope s_Stack_init) [.ref d0] [] fInit dInit)
    (lD0 : K.lookup d0 = some ⟨.type "tuple", oo0, .seq [].toArray on0, os0⟩)
    (aSeq : PySem.W.nsIn K mainGlobals "is_sequence" = some (some (.ref fSeq)))
    (FSeq : Fun K "is_sequence" "is_sequence" s_is_sequence fSeq dSeq)
    (aOf : PySem.W.nsIn K mainGlobals "rows_of" = some (some (.ref fOf)))
    (FOf : Fun K "rows_of" "rows_of" s_rows_of fOf dOf)
    (z_tuple : PySem.W.nsIn K mainGlobals "tuple" = some none)
    (z_list : PySem.W.nsIn K mainGlobals "list" = some none)
    (z_enumerate : PySem.W.nsIn K mainGlobals "enumerate" = some none)
    (z_len : PySem.W.nsIn K mainGlobals "len" = some none)
    (iS : PySem.W.isClsIn K S = true)
    (tS : PySem.W.typeIn K (.ref S) = some (.type "type"))
    (nKeep : keep ≠ S)
    (nTries : tries ≠ S)
    (nLimit : limit ≠ S)
    (nLeave : leave ≠ S)
    (nSoft : soft ≠ S)
    (nCount : count ≠ S)
    (nLend : lend ≠ S)
    (FsS : Fun K "__str__" "Stack.__str__" s_Stack_str gsS dsS)
    (CRS : ClX.CRead K S (.type "type"))
    (CMS : ClX.CMet K S (.type "type") "read" pReadS fReadS)
    (FReadS : Fun K "read" "Stack.read" s_Stack_read fReadS dReadS)
    (aIn : PySem.W.nsIn K mainGlobals "rows_in" = some (some (.ref fIn)))
    (FIn : Fun K "rows_in" "rows_in" s_rows_in fIn dIn)
    (aWE : PySem.W.nsIn K mainGlobals "WrapError" = some (some (.ref CW)))
    (iCW : PySem.W.isClsIn K CW = true)
    (tCW : PySem.W.typeIn K (.ref CW) = some (.type "type"))
    (aIR : PySem.W.nsIn K mainGlobals "InvalidRow" = some (some (.ref CR')))
    (iCR' : PySem.W.isClsIn K CR' = true)
    (tCR' : PySem.W.typeIn K (.ref CR') = some (.type "type"))
    (aIS : PySem.W.nsIn K mainGlobals "InvalidStack" = some (some (.ref CI)))
    (iCI : PySem.W.isClsIn K CI = true)
    (tCI : PySem.W.typeIn K (.ref CI) = some (.type "type"))
    (aCT : PySem.W.nsIn K mainGlobals "InvalidText" = some (some (.ref CT)))
    (xLT : K.lookup CT = some (PySem.excClassObj nmT qT CT NTT bsT [.ref CW, .type "ValueError", .type "Exception", .type "BaseException", .type "object"] true snT sbT abT coT ddT x0T x1T x2T x3T x5T "ValueError.__new__"))
    (xsaT : PySem.W.findIn K (.ref CT) "__setattr__" = some (some (.builtin "object.__setattr__")))
    (xgaT : PySem.W.findIn K (.ref CT) "__getattribute__" = some (some (.builtin "BaseException.__getattribute__")))
    (xggT : PySem.W.findIn K (.ref CT) "__getattr__" = some (none))
    (xnoT : PySem.W.findIn K (.ref CT) "at" = some (none))
    (xinT : PySem.W.findIn K (.ref CT) "__init__" = some (some (.ref fXT)))
    (xcaT : PySem.W.findIn K (.ref CT) "__class__" = some (some (.builtin "object.__class__")))
    (xtfT : PySem.W.typeIn K (.ref fXT) = some (.type "function"))
    (xkpT : PySem.W.keepIn K (.ref CT) = true)
    (xsbT : PySem.W.subIn K (.ref CT) (.type "BaseException") = some true)
    (xtyT : PySem.W.typeIn K (.ref CT) = some (.type "type"))
    (xhdT : PySem.W.hasDictIn K CT = true)
    (xseT : PySem.W.subIn K (.ref CT) (.ref CT) = some true)
    (xcn : PySem.W.specialIn K (.builtin "object.__class__") "__get__" = some (some (.builtin "getset_descriptor.__get__")))
    (xct : PySem.W.takesIn K (.builtin "object.__class__") = some true)
    (xcmT : PySem.W.mroIn K CT (.type "object") = some true)
    (FXT : Fun K "__init__" "InvalidText.__init__" s_InvalidText_init fXT dXT)
    (xsW : PySem.W.subIn K (.ref CT) (.ref CW) = some true)
    (xsR : PySem.W.subIn K (.ref CT) (.ref CR') = some false)
    (xne : CT ≠ CR')
    (xsI : PySem.W.subIn K (.ref CT) (.ref CI) = some false)
    (xni : CT ≠ CI)
    (aSo : PySem.W.nsIn K mainGlobals "_law_source" = some (some (.ref fSo)))
    (FSo : Fun K "_law_source" "_law_source" s_law_source fSo dSo)
    (aDr : PySem.W.nsIn K mainGlobals "_law_draw" = some (some (.ref fDr)))
    (FDr : Fun K "_law_draw" "_law_draw" s_law_draw fDr dDr)
    (aPi : PySem.W.nsIn K mainGlobals "_law_pick" = some (some (.ref fPi)))
    (FPi : Fun K "_law_pick" "_law_pick" s_law_pick fPi dPi)
    (aMx : PySem.W.nsIn K mainGlobals "_law_mixed" = some (some (.ref fMx)))
    (FMx : Fun K "_law_mixed" "_law_mixed" s_law_mixed fMx dMx)
    (aRo : PySem.W.nsIn K mainGlobals "_law_row" = some (some (.ref fRo)))
    (FRo : Fun K "_law_row" "_law_row" s_law_row fRo dRo)
    (aRs : PySem.W.nsIn K mainGlobals "_law_rows" = some (some (.ref fRs)))
    (FRs : Fun K "_law_rows" "_law_rows" s_law_rows fRs dRs)
    (aRt : PySem.W.nsIn K mainGlobals "_law_row_text" = some (some (.ref fRt)))
    (FRt : Fun K "_law_row_text" "_law_row_text" s_law_row_text fRt dRt)
    (aHe : PySem.W.nsIn K mainGlobals "_law_heard" = some (some (.ref fHe)))
    (FHe : Fun K "_law_heard" "_law_heard" s_law_heard fHe dHe)
    (aLaw : PySem.W.nsIn K mainGlobals "law" = some (some (.ref fLaw)))
    (FLaw : Fun K "law" "law" s_law fLaw dLaw)
    (z_abs : PySem.W.nsIn K mainGlobals "abs" = some none)
    (z_range : PySem.W.nsIn K mainGlobals "range" = some none)
    (z_max : PySem.W.nsIn K mainGlobals "max" = some none)
    (z_min : PySem.W.nsIn K mainGlobals "min" = some none)
    (z_repr : PySem.W.nsIn K mainGlobals "repr" = some none) :
    ∃ fd : FuncData, (∀ (s : Shared) (v : Value), BindsTo s fd ⟨[v], []⟩ [("_law_script", v)]) ∧ ∀ base : Heap, K.In base → base.Ns mainGlobals mg → FnOk P w K mg base CX0 12 fa fd ["_law_script"] (spLaw K) := by
  have e := hfa.symm.trans (mg_of X G aLaw)
  cases e
  let c : Cs := ⟨row, keep, tries, limit, leave, soft, count, lend⟩
  have T : Txt' K mg c gs ge := { own := (fun r => match r with | .keep .. => oKeep | .tries .. => oTries | .limit .. => oLimit | .leave .. => oLeave | .soft .. => oSoft | .count .. => oCount | .lend .. => oLend), nW := nW, nL := nL, tM := tM, tO := tO, lM := lM, sO := sO, isR := (fun r => match r with | .keep .. => kit_own iRow tRow sKeep (.inr rfl) | .tries .. => kit_own iRow tRow sTries (.inr rfl) | .limit .. => kit_own iRow tRow sLimit (.inr rfl) | .leave .. => kit_own iRow tRow sLeave (.inr rfl) | .soft .. => kit_own iRow tRow sSoft (.inr rfl) | .count .. => kit_own iRow tRow sCount (.inr rfl) | .lend .. => kit_own iRow tRow sLend (.inr rfl)), mRow := mg_of X G aRow, mKeep := mg_of X G aKeep, mTries := mg_of X G aTries, mLimit := mg_of X G aLimit, mLeave := mg_of X G aLeave, mSoft := mg_of X G aSoft, mCount := mg_of X G aCount, mLend := mg_of X G aLend, oLeave := mLeave, oCount := mCount, oLend := mLend, cKept := ⟨kKept, mg_of X G aKept, KTup.of lKept (by simp) (.cons ⟨_, rfl⟩ (.cons ⟨_, rfl⟩ .nil))⟩, cLives := ⟨kLives, mg_of X G aLives, KTup.of lLives (by simp) (.cons ⟨_, rfl⟩ (.cons ⟨_, rfl⟩ (.cons ⟨_, rfl⟩ (.cons ⟨_, rfl⟩ .nil))))⟩, cAsked := ⟨kAsked, mg_of X G aAsked, KTup.of lAsked (by simp) (.cons ⟨_, rfl⟩ (.cons ⟨_, rfl⟩ (.cons ⟨_, rfl⟩ .nil)))⟩, cTries := ⟨kMTries, mg_of X G aMTries, KTup.of lMTries (by simp) (.cons ⟨_, rfl⟩ (.cons ⟨_, rfl⟩ (.cons ⟨_, rfl⟩ (.cons ⟨_, rfl⟩ (.cons ⟨_, rfl⟩ (.cons ⟨_, rfl⟩ .nil))))))⟩, cFaults := ⟨kFaults, mg_of X G aFaults, KTup.of lFaults (by simp) (.cons ⟨_, rfl⟩ (.cons ⟨_, rfl⟩ .nil))⟩, isi := mg_none_of X G z_isinstance, str := mg_none_of X G z_str, int_ := mg_none_of X G z_int, bool_ := mg_none_of X G z_bool }
  have bInt := FInt.binds (ps := ["value"]) fun _ _ _ _ _ _ us hl => match us, hl with | [_], _ => rfl
  have bOne := FOne.binds (ps := ["value", "numbers"]) fun _ _ _ _ _ _ us hl => match us, hl with | [_, _], _ => rfl
  have bChk := FChk.binds (ps := ["word", "is_right"]) fun _ _ _ _ _ _ us hl => match us, hl with | [_, _], _ => rfl
  have bLimit := FLimit.binds (ps := ["self", "many"]) fun _ _ _ _ _ _ us hl => match us, hl with | [_, _], _ => rfl
  have bEvery := FEvery.binds (ps := []) fun _ _ _ _ _ _ us hl => match us, hl with | [], _ => rfl
  have bRead := FRead.binds (ps := ["cls", "text"]) fun _ _ _ _ _ _ us hl => match us, hl with | [_, _], _ => rfl
  obtain ⟨eK, vK, bKeep⟩ := FKeep.binds1 (ps := ["self", "what", "life"]) 3 2 (List.cons_ne_nil _ _) rfl fun T kV doc pm an cdv ct us its h1 h2 => match us, its, h1, h2 with | [_, _, _], [_, _], _, _ => ⟨_, rfl, rfl⟩
  cases vK
  obtain ⟨eT, vT, bTries⟩ := FTries.binds1 (ps := ["self", "many", "on"]) 3 1 (List.cons_ne_nil _ _) rfl fun T kV doc pm an cdv ct us its h1 h2 => match us, its, h1, h2 with | [_, _, _], [_], _, _ => ⟨_, rfl, rfl⟩
  cases vT
  obtain ⟨eS, vS, bSoft⟩ := FSoft.binds1 (ps := ["self", "on"]) 2 1 (List.cons_ne_nil _ _) rfl fun T kV doc pm an cdv ct us its h1 h2 => match us, its, h1, h2 with | [_, _], [_], _, _ => ⟨_, rfl, rfl⟩
  cases vS
  have bKeepw := VKeep.binds (ps := ["self"]) fun _ _ _ _ _ _ us hl => match us, hl with | [_], _ => rfl
  have bTriesw := VTries.binds (ps := ["self"]) fun _ _ _ _ _ _ us hl => match us, hl with | [_], _ => rfl
  have bLimitw := VLimit.binds (ps := ["self"]) fun _ _ _ _ _ _ us hl => match us, hl with | [_], _ => rfl
  have bLeavew := VLeave.binds (ps := ["self"]) fun _ _ _ _ _ _ us hl => match us, hl with | [_], _ => rfl
  have bSoftw := VSoft.binds (ps := ["self"]) fun _ _ _ _ _ _ us hl => match us, hl with | [_], _ => rfl
  have bCountw := VCount.binds (ps := ["self"]) fun _ _ _ _ _ _ us hl => match us, hl with | [_], _ => rfl
  have bLendw := VLend.binds (ps := ["self"]) fun _ _ _ _ _ _ us hl => match us, hl with | [_], _ => rfl
  have bStr := FStr.binds (ps := ["self"]) fun _ _ _ _ _ _ us hl => match us, hl with | [_], _ => rfl
  have lo : ∀ base : Heap, Low P w K mg base fOne fChk dOne dChk := fun base => ⟨ok_is_one_of FOne T FInt bInt (mg_of X G aInt), bOne, mg_of X G aOne, FOne.kp, ok_check FChk, bChk, mg_of X G aChk, FChk.kp⟩
  have mk : ∀ base : Heap, Makers P w K mg base c fKeep fTries fLimit fSoft dKeep dTries dLimit dSoft := fun base => ⟨mKeep, ok_Keep FKeep T (lo base), bKeep, mTries, ok_Tries FTries T (lo base), bTries, mLimit, ok_Limit FLimit T (lo base), bLimit, mSoft, ok_Soft FSoft T (lo base), bSoft⟩
  have wd : ∀ base : Heap, WordsOk P w K mg base c := fun base r => match r with
    | .keep a b => ⟨wKeep, dwKeep, WKeep, bKeepw, (ok_wKeep VKeep T).imp fun vs H Q E ⟨p, r, h1, h2, h3⟩ => ⟨p, r, h1, ⟨a, b, h2⟩, h3⟩⟩
    | .tries a b => ⟨wTries, dwTries, WTries, bTriesw, (ok_wTries VTries T).imp fun vs H Q E ⟨p, r, h1, h2, h3⟩ => ⟨p, r, h1, ⟨a, b, h2⟩, h3⟩⟩
    | .limit a => ⟨wLimit, dwLimit, WLimit, bLimitw, (ok_wLimit VLimit T).imp fun vs H Q E ⟨p, r, h1, h2, h3⟩ => ⟨p, r, h1, ⟨a, h2⟩, h3⟩⟩
    | .leave => ⟨wLeave, dwLeave, WLeave, bLeavew, ok_wLeave VLeave⟩
    | .soft a => ⟨wSoft, dwSoft, WSoft, bSoftw, (ok_wSoft VSoft T).imp fun vs H Q E ⟨p, r, h1, h2, h3⟩ => ⟨p, r, h1, ⟨a, h2⟩, h3⟩⟩
    | .count => ⟨wCount, dwCount, WCount, bCountw, ok_wCount VCount⟩
    | .lend => ⟨wLend, dwLend, WLend, bLendw, ok_wLend VLend⟩
  have gStr : ∀ base : Heap, FnOk P w K mg base CX0 2 gs dStr ["self"] (spStr c) := fun base => ok_str FStr T (wd base)
  have gRead : ∀ base : Heap, ReadOk P w K mg base c pRead fRead dRead (.type "type") := fun base => ⟨ok_read FRead T (ok_every FEvery T (mk base)) bEvery (mg_of X G aEvery) FEvery.kp (gStr base) bStr, bRead, CR, CM⟩
  have TS : TxtS K mg S gsS geS glS := ⟨oStack, nRows, if_pos (beq_self_eq_true _), by simp [PySem.W.notFirst], lnS, lfS, mg_of X G aStack, mg_none_of X G z_isinstance, mg_none_of X G z_str, mg_none_of X G z_tuple, mg_none_of X G z_list, mg_none_of X G z_enumerate, mg_none_of X G z_len⟩
  obtain ⟨eI, vI, bInit⟩ := FInit.binds1 (ps := ["self", "rows"]) 2 1 (List.cons_ne_nil _ _) rfl fun T kV doc pm an cdv ct us its h1 h2 => match us, its, h1, h2 with | [_, _], [_], _, _ => ⟨_, rfl, rfl⟩
  cases vI
  obtain ⟨eJ, vJ, bInit0⟩ := FInit.binds1 (ps := ["self", "rows"]) 1 0 (List.cons_ne_nil _ _) rfl fun T kV doc pm an cdv ct us its h1 h2 => match us, its, h1, h2 with | [_], [_], _, _ => ⟨_, rfl, rfl⟩
  have eJ' : eJ = [.ref d0] := by
    cases vJ with
    | cons h1 h2 =>
      cases h2
      cases h1
      rfl
  subst eJ'
  have bSeq := FSeq.binds (ps := ["value"]) fun _ _ _ _ _ _ us hl => match us, hl with | [_], _ => rfl
  have bOf := FOf.binds (ps := ["value"]) fun _ _ _ _ _ _ us hl => match us, hl with | [_], _ => rfl
  have nc : ∀ r : R, c.of r ≠ S := fun r => match r with | .keep .. => nKeep | .tries .. => nTries | .limit .. => nLimit | .leave .. => nLeave | .soft .. => nSoft | .count .. => nCount | .lend .. => nLend
  have gOf : ∀ base : Heap, FnOk P w K mg base CX0 2 fOf dOf ["value"] (spRowsOf K c) := fun base => ok_rows_of FOf T TS FSeq bSeq (mg_of X G aSeq)
  have ms : ∀ base : Heap, MakeS P w K mg base c S fInit d0 dInit := fun base => ⟨mStack, ok_initS FInit TS nc (gOf base) bOf (mg_of X G aOf) FOf.kp, bInit, bInit0, KTup.of lD0 (by simp) .nil⟩
  have bsS := FsS.binds (ps := ["self"]) fun _ _ _ _ _ _ us hl => match us, hl with | [_], _ => rfl
  have gsS' : ∀ base : Heap, FnOk P w K mg base CX0 5 gsS dsS ["self"] (spStrS K c S) := fun base => ok_strS FsS T TS (gStr base) bStr
  have bReadS := FReadS.binds (ps := ["cls", "text"]) fun _ _ _ _ _ _ us hl => match us, hl with | [_, _], _ => rfl
  have bIn := FIn.binds (ps := ["lines"]) fun _ _ _ _ _ _ us hl => match us, hl with | [_], _ => rfl
  have bXT := FXT.binds (ps := ["self", "at"]) fun _ _ _ _ _ _ us hl => match us, hl with | [_, _], _ => rfl
  have bSo := FSo.binds (ps := ["_law_script", "_law_base"]) fun _ _ _ _ _ _ us hl => match us, hl with | [_, _], _ => rfl
  have bDr := FDr.binds (ps := ["_law_deal", "_law_wide"]) fun _ _ _ _ _ _ us hl => match us, hl with | [_, _], _ => rfl
  have bPi := FPi.binds (ps := ["_law_deal", "_law_some"]) fun _ _ _ _ _ _ us hl => match us, hl with | [_, _], _ => rfl
  have bMx := FMx.binds (ps := ["_law_deal", "_law_some"]) fun _ _ _ _ _ _ us hl => match us, hl with | [_, _], _ => rfl
  have bRo := FRo.binds (ps := ["_law_deal", "_law_sort"]) fun _ _ _ _ _ _ us hl => match us, hl with | [_, _], _ => rfl
  have bRs := FRs.binds (ps := ["_law_deal", "_law_amount"]) fun _ _ _ _ _ _ us hl => match us, hl with | [_, _], _ => rfl
  have bRt := FRt.binds (ps := ["_law_row_here"]) fun _ _ _ _ _ _ us hl => match us, hl with | [_], _ => rfl
  have bHe := FHe.binds (ps := ["_law_text"]) fun _ _ _ _ _ _ us hl => match us, hl with | [_], _ => rfl
  have B : Bn mg := ⟨mg_none_of X G z_int, mg_none_of X G z_abs, mg_none_of X G z_len, mg_none_of X G z_range, mg_none_of X G z_list, mg_none_of X G z_str⟩
  have dr : ∀ base : Heap, Def P w K mg base 1 "_law_draw" ["_law_deal", "_law_wide"] (spDraw) fDr dDr := fun base => ⟨ok_draw FDr B, bDr, mg_of X G aDr, FDr.kp⟩
  have dr' : ∀ base : Heap, DrawOk P w K mg base fDr dDr := fun base => ⟨(dr base).g, bDr, (dr base).m, FDr.kp⟩
  have pk : ∀ base : Heap, Def P w K mg base 2 "_law_pick" ["_law_deal", "_law_some"] (spPick) fPi dPi := fun base => ⟨ok_pick FPi B (dr' base), bPi, mg_of X G aPi, FPi.kp⟩
  have mx : ∀ base : Heap, Def P w K mg base 2 "_law_mixed" ["_law_deal", "_law_some"] (spMixed) fMx dMx := fun base => ⟨ok_mixed FMx B (dr' base), bMx, mg_of X G aMx, FMx.kp⟩
  have ro : ∀ base : Heap, Def P w K mg base 3 "_law_row" ["_law_deal", "_law_sort"] (spRow) fRo dRo := fun base => ⟨ok_row FRo ⟨(pk base).g, bPi, mg_of X G aPi, FPi.kp⟩ (dr' base), bRo, mg_of X G aRo, FRo.kp⟩
  have rs : ∀ base : Heap, Def P w K mg base 4 "_law_rows" ["_law_deal", "_law_amount"] (spRows) fRs dRs := fun base => ⟨ok_rows FRs ⟨ok_mixed FMx B (dr' base), bMx, mg_of X G aMx, FMx.kp⟩ ⟨(ro base).g, bRo, mg_of X G aRo, FRo.kp⟩, bRs, mg_of X G aRs, FRs.kp⟩
  have rt : ∀ base : Heap, Def P w K mg base 1 "_law_row_text" ["_law_row_here"] (spRowText) fRt dRt := fun base => ⟨ok_row_text FRt B, bRt, mg_of X G aRt, FRt.kp⟩
  have ex : ∀ base : Heap, ErrX P w K mg base CT CW CR' fXT dXT := fun base => { ox := ⟨⟨nmT, qT, NTT, bsT, _, snT, sbT, abT, coT, ddT, x0T, x1T, x2T, x3T, x5T, xLT, (by show PySem.HandSPX.refsVE [.type "ValueError", .type "Exception", .type "BaseException", .type "object"] = true; decide +kernel)⟩, xsaT, xsbT, xtyT, xkpT⟩, iC := xinT, tI := xtfT, b := bXT, m := mg_of X G aCT, no := xnoT, te := PySem.W.exm_ref xsbT xhdT xtyT xseT, xf := ⟨xgaT, xggT, xsbT, xhdT⟩, ex := ⟨xgaT, xggT, xsbT, xhdT, xcaT, xcn, xct, xcmT⟩, g := ok_xinit FXT, kW := kit_own iCW tCW xsW (.inr rfl), kR := kit_own iCR' tCR' xsR (.inl (bfR xne)), mW := mg_of X G aWE, mR := mg_of X G aIR }
  have gReadN : ∀ base : Heap, FnOk P w K mg base (L2N.CX P w) 6 fRead dRead ["cls", "text"] (spReadX c CT) := fun base => ok_readN FRead T (ok_every FEvery T (mk base)) bEvery (mg_of X G aEvery) FEvery.kp (gStr base) bStr (ex base)
  have gIn : ∀ base : Heap, FnOk P w K mg base (L2.CX P w) 7 fIn dIn ["lines"] (spRowsInX K c CT) := fun base => ok_rows_inX FIn T TS (ex base) (ok_xinitH FXT) (gReadN base) bRead CR CM
  have gSX : ∀ base : Heap, FnOk P w K mg base (L2.CX P w) 8 fReadS dReadS ["cls", "text"] (spReadSX K c S CT) := fun base => ok_readSX FReadS (ms base) (gIn base) bIn (mg_of X G aIn) FIn.kp
  have he : ∀ base : Heap, Def P w K mg base 9 "_law_heard" ["_law_text"] spHeard8 fHe dHe := fun base => ⟨ok_heard8 FHe TS (ex base) (kit_own iCI tCI xsI (.inl (bfR xni))) (mg_of X G aIS) (gSX base) bReadS CRS CMS (gsS' base) bsS, bHe, mg_of X G aHe, FHe.kp⟩
  refine ⟨_, fun s v => ?bnd, fun base _ _ => ok_law08 FLaw B (mg_none_of X G z_max) (mg_none_of X G z_min) (mg_none_of X G z_enumerate) ⟨ok_source FSo B, bSo, mg_of X G aSo, FSo.kp⟩ (dr base) (pk base) (rs base) (rt base) (he base)⟩
  case bnd => obtain ⟨_, _, _, _, _, _, _, _, _, rfl, _, _⟩ := FLaw.ex; exact .of_eq rfl
theorem walk {l : PySem.W.OpenLaw} {q : Program} {loose : List Str} {XP : (Str → Option Value) → Heap → Prop} {YP : World → Heap → Prop} {d : DefRec} {K : Params → PySem.W.Frag} (hn : l.most = some 63) (hdf : d.params.defaults = [])
    (hY : ∀ (w : World) (h : Heap), YP w h → (K w.params).In h)
    (F : ∀ (w : World) (mg : Str → Option Value) (fa : Addr) (h : Heap), (K w.params).In h → h.Ns mainGlobals mg → mg d.name = some (.ref fa) →
      ∃ fd : FuncData, (∀ (s : Shared) (u : Value), BindsTo s fd ⟨[u], []⟩ [("_law_script", u)]) ∧ ∀ base : Heap, (K w.params).In base → base.Ns mainGlobals mg → FnOk l.prog w (K w.params) mg base CX0 12 fa fd ["_law_script"] (spLaw (K w.params))) :
    PySem.W.WalkO q loose XP YP l.row.toRowW d [] (fun f vs => PySem.call f vs) :=
  L2.walk_of (n := 63) (k := 12) (x := "_law_script") (CX := fun _ => CX0) (sp := fun w => spLaw (K w.params)) hn (by decide) hdf ⟨rfl, by decide, by decide⟩ hY F (fun _ _ a ns hl _ hS => ⟨a, ns, rfl, hS, hl, fun _ => rfl⟩) fun _ _ _ _ _ z => z
end
end Ow
end
open PySem PySem.W PyProof.Rows
set_option maxRecDepth 100000 in
set_option maxHeartbeats 0 in
theorem PySem.Challenge.cw_outermost_k08_texts_of_no_stack_holds : PySem.Challenge.rw_outermost_k08_texts_of_no_stack.Holds := by
  w_on; o_law; k_head; (case hw => w_witness2)
  k_fill
  refine Ow.walk (l := PySem.Challenge.rw_outermost_k08_texts_of_no_stack) rfl rfl (fun w h Y => PySem.W.kIn_of Y) ?F
  case F =>
    intro w mg fa h KX G hmg
    refine' Ow.all_mk KX G hmg ?aRow ?aKeep ?aTries ?aLimit ?aLeave ?aSoft ?aCount ?aLend ?oKeep ?oTries ?oLimit ?oLeave ?oSoft ?oCount ?oLend ?sKeep ?sTries ?sLimit ?sLeave ?sSoft ?sCount ?sLend ?iRow ?tRow ?nW ?nL ?tM ?tO ?lM ?sO ?mKeep ?mTries ?mLimit ?mSoft ?mLeave ?mCount ?mLend ?aKept ?lKept ?aLives ?lLives ?aAsked ?lAsked ?aMTries ?lMTries ?aFaults ?lFaults ?FKeep ?FTries ?FLimit ?FSoft ?WKeep ?VKeep ?WTries ?VTries ?WLimit ?VLimit ?WLeave ?VLeave ?WSoft ?VSoft ?WCount ?VCount ?WLend ?VLend ?FStr ?CR ?CM ?FRead ?aEvery ?FEvery ?aInt ?FInt ?aOne ?FOne ?aChk ?FChk ?z_isinstance ?z_str ?z_int ?z_bool ?aStack ?oStack ?nRows ?lnS ?lfS ?mStack ?FInit ?lD0 ?aSeq ?FSeq ?aOf ?FOf ?z_tuple ?z_list ?z_enumerate ?z_len ?iS ?tS ?nKeep ?nTries ?nLimit ?nLeave ?nSoft ?nCount ?nLend ?FsS ?CRS ?CMS ?FReadS ?aIn ?FIn ?aWE ?iCW ?tCW ?aIR ?iCR' ?tCR' ?aIS ?iCI ?tCI ?aCT ?xLT ?xsaT ?xgaT ?xggT ?xnoT ?xinT ?xcaT ?xtfT ?xkpT ?xsbT ?xtyT ?xhdT ?xseT ?xcn ?xct ?xcmT ?FXT ?xsW ?xsR ?xne ?xsI ?xni ?aSo ?FSo ?aDr ?FDr ?aPi ?FPi ?aMx ?FMx ?aRo ?FRo ?aRs ?FRs ?aRt ?FRt ?aHe ?FHe ?aLaw ?FLaw ?z_abs ?z_range ?z_max ?z_min ?z_repr
    (case aRow => k_is)
    (case aKeep => k_is)
    (case aTries => k_is)
    (case aLimit => k_is)
    (case aLeave => k_is)
    (case aSoft => k_is)
    (case aCount => k_is)
    (case aLend => k_is)
    (case oKeep => (constructor; (constructor <;> k_is); all_goals k_is))
    (case oTries => (constructor; (constructor <;> k_is); all_goals k_is))
    (case oLimit => (constructor; (constructor <;> k_is); all_goals k_is))
    (case oLeave => (constructor; (constructor <;> k_is); all_goals k_is))
    (case oSoft => (constructor; (constructor <;> k_is); all_goals k_is))
    (case oCount => (constructor; (constructor <;> k_is); all_goals k_is))
    (case oLend => (constructor; (constructor <;> k_is); all_goals k_is))
    (case sKeep => k_is)
    (case sTries => k_is)
    (case sLimit => k_is)
    (case sLeave => k_is)
    (case sSoft => k_is)
    (case sCount => k_is)
    (case sLend => k_is)
    (case iRow => k_is)
    (case tRow => k_is)
    (case nW => k_is)
    (case nL => k_is)
    (case tM => k_is)
    (case tO => k_is)
    (case lM => k_is)
    (case sO => k_is)
    (case mKeep => (constructor <;> k_is))
    (case mTries => (constructor <;> k_is))
    (case mLimit => (constructor <;> k_is))
    (case mSoft => (constructor <;> k_is))
    (case mLeave => (constructor <;> k_is))
    (case mCount => (constructor <;> k_is))
    (case mLend => (constructor <;> k_is))
    (case aKept => k_is)
    (case lKept => k_is)
    (case aLives => k_is)
    (case lLives => k_is)
    (case aAsked => k_is)
    (case lAsked => k_is)
    (case aMTries => k_is)
    (case lMTries => k_is)
    (case aFaults => k_is)
    (case lFaults => k_is)
    (case FKeep => (first | exact Ow.fund_mk (by k_is) (by k_is) (by k_is) (by exact .cons ⟨_, rfl⟩ (.cons rfl .nil)) (List.cons_ne_nil _ _) (by k_is) | (refine' Ow.fund_mk ?_ ?_ ?_ ?_ (List.cons_ne_nil _ _) ?_ <;> first | k_is | exact .cons ⟨_, rfl⟩ (.cons rfl .nil) | skip)))
    (case FTries => (first | exact Ow.fund_mk (by k_is) (by k_is) (by k_is) (by exact .cons ⟨_, rfl⟩ .nil) (List.cons_ne_nil _ _) (by k_is) | (refine' Ow.fund_mk ?_ ?_ ?_ ?_ (List.cons_ne_nil _ _) ?_ <;> first | k_is | exact .cons ⟨_, rfl⟩ .nil | skip)))
    (case FLimit => (first | exact L2.fun_mk (by k_is) (by k_is) (by k_is) | (refine' L2.fun_mk ?_ ?_ ?_ <;> try k_is)))
    (case FSoft => (first | exact Ow.fund_mk (by k_is) (by k_is) (by k_is) (by exact .cons ⟨_, rfl⟩ .nil) (List.cons_ne_nil _ _) (by k_is) | (refine' Ow.fund_mk ?_ ?_ ?_ ?_ (List.cons_ne_nil _ _) ?_ <;> first | k_is | exact .cons ⟨_, rfl⟩ .nil | skip)))
    (case WKeep => (constructor <;> k_is))
    (case VKeep => (first | exact L2.fun_mk (by k_is) (by k_is) (by k_is) | (refine' L2.fun_mk ?_ ?_ ?_ <;> try k_is)))
    (case WTries => (constructor <;> k_is))
    (case VTries => (first | exact L2.fun_mk (by k_is) (by k_is) (by k_is) | (refine' L2.fun_mk ?_ ?_ ?_ <;> try k_is)))
    (case WLimit => (constructor <;> k_is))
    (case VLimit => (first | exact L2.fun_mk (by k_is) (by k_is) (by k_is) | (refine' L2.fun_mk ?_ ?_ ?_ <;> try k_is)))
    (case WLeave => (constructor <;> k_is))
    (case VLeave => (first | exact L2.fun_mk (by k_is) (by k_is) (by k_is) | (refine' L2.fun_mk ?_ ?_ ?_ <;> try k_is)))
    (case WSoft => (constructor <;> k_is))
    (case VSoft => (first | exact L2.fun_mk (by k_is) (by k_is) (by k_is) | (refine' L2.fun_mk ?_ ?_ ?_ <;> try k_is)))
    (case WCount => (constructor <;> k_is))
    (case VCount => (first | exact L2.fun_mk (by k_is) (by k_is) (by k_is) | (refine' L2.fun_mk ?_ ?_ ?_ <;> try k_is)))
    (case WLend => (constructor <;> k_is))
    (case VLend => (first | exact L2.fun_mk (by k_is) (by k_is) (by k_is) | (refine' L2.fun_mk ?_ ?_ ?_ <;> try k_is)))
    (case FStr => (first | exact L2.fun_mk (by k_is) (by k_is) (by k_is) | (refine' L2.fun_mk ?_ ?_ ?_ <;> try k_is)))
    (case CR => (constructor <;> k_is))
    (case CM => (first | exact Ow.cmet_mk (by k_is) (by k_is) (by k_is) | (refine' Ow.cmet_mk ?_ ?_ ?_ <;> try k_is)))
    (case FRead => (first | exact L2.fun_mk (by k_is) (by k_is) (by k_is) | (refine' L2.fun_mk ?_ ?_ ?_ <;> try k_is)))
    (case aEvery => k_is)
    (case FEvery => (first | exact L2.fun_mk (by k_is) (by k_is) (by k_is) | (refine' L2.fun_mk ?_ ?_ ?_ <;> try k_is)))
    (case aInt => k_is)
    (case FInt => (first | exact L2.fun_mk (by k_is) (by k_is) (by k_is) | (refine' L2.fun_mk ?_ ?_ ?_ <;> try k_is)))
    (case aOne => k_is)
    (case FOne => (first | exact L2.fun_mk (by k_is) (by k_is) (by k_is) | (refine' L2.fun_mk ?_ ?_ ?_ <;> try k_is)))
    (case aChk => k_is)
    (case FChk => (first | exact L2.fun_mk (by k_is) (by k_is) (by k_is) | (refine' L2.fun_mk ?_ ?_ ?_ <;> try k_is)))
    (case z_isinstance => k_is)
    (case z_str => k_is)
    (case z_int => k_is)
    (case z_bool => k_is)
    (case aStack => k_is)
    (case oStack => (constructor; (constructor <;> k_is); all_goals k_is))
    (case nRows => k_is)
    (case lnS => k_is)
    (case lfS => k_is)
    (case mStack => (constructor <;> k_is))
    (case FInit => (first | exact Ow.fund_mk (by k_is) (by k_is) (by k_is) (by exact .cons rfl .nil) (List.cons_ne_nil _ _) (by k_is) | (refine' Ow.fund_mk ?_ ?_ ?_ ?_ (List.cons_ne_nil _ _) ?_ <;> first | k_is | exact .cons rfl .nil | skip)))
    (case lD0 => k_is)
    (case aSeq => k_is)
    (case FSeq => (first | exact L2.fun_mk (by k_is) (by k_is) (by k_is) | (refine' L2.fun_mk ?_ ?_ ?_ <;> try k_is)))
    (case aOf => k_is)
    (case FOf => (first | exact L2.fun_mk (by k_is) (by k_is) (by k_is) | (refine' L2.fun_mk ?_ ?_ ?_ <;> try k_is)))
    (case z_tuple => k_is)
    (case z_list => k_is)
    (case z_enumerate => k_is)
    (case z_len => k_is)
    (case iS => k_is)
    (case tS => k_is)
    (case nKeep => decide)
    (case nTries => decide)
    (case nLimit => decide)
    (case nLeave => decide)
    (case nSoft => decide)
    (case nCount => decide)
    (case nLend => decide)
    (case FsS => (first | exact L2.fun_mk (by k_is) (by k_is) (by k_is) | (refine' L2.fun_mk ?_ ?_ ?_ <;> try k_is)))
    (case CRS => (constructor <;> k_is))
    (case CMS => (first | exact Ow.cmet_mk (by k_is) (by k_is) (by k_is) | (refine' Ow.cmet_mk ?_ ?_ ?_ <;> try k_is)))
    (case FReadS => (first | exact L2.fun_mk (by k_is) (by k_is) (by k_is) | (refine' L2.fun_mk ?_ ?_ ?_ <;> try k_is)))
    (case aIn => k_is)
    (case FIn => (first | exact L2.fun_mk (by k_is) (by k_is) (by k_is) | (refine' L2.fun_mk ?_ ?_ ?_ <;> try k_is)))
    (case aWE => k_is)
    (case iCW => k_is)
    (case tCW => k_is)
    (case aIR => k_is)
    (case iCR' => k_is)
    (case tCR' => k_is)
    (case aIS => k_is)
    (case iCI => k_is)
    (case tCI => k_is)
    (case aCT => k_is)
    (case xLT => k_is)
    (case xsaT => k_is)
    (case xgaT => k_is)
    (case xggT => k_is)
    (case xnoT => k_is)
    (case xinT => k_is)
    (case xcaT => k_is)
    (case xtfT => k_is)
    (case xkpT => k_is)
    (case xsbT => k_is)
    (case xtyT => k_is)
    (case xhdT => k_is)
    (case xseT => first | rfl | k_is)
    (case xcn => k_is)
    (case xct => k_is)
    (case xcmT => k_is)
    (case FXT => (first | exact L2.fun_mk (by k_is) (by k_is) (by k_is) | (refine' L2.fun_mk ?_ ?_ ?_ <;> try k_is)))
    (case xsW => k_is)
    (case xsR => k_is)
    (case xne => decide)
    (case xsI => k_is)
    (case xni => decide)
    (case aSo => k_is)
    (case FSo => (first | exact L2.fun_mk (by k_is) (by k_is) (by k_is) | (refine' L2.fun_mk ?_ ?_ ?_ <;> try k_is)))
    (case aDr => k_is)
    (case FDr => (first | exact L2.fun_mk (by k_is) (by k_is) (by k_is) | (refine' L2.fun_mk ?_ ?_ ?_ <;> try k_is)))
    (case aPi => k_is)
    (case FPi => (first | exact L2.fun_mk (by k_is) (by k_is) (by k_is) | (refine' L2.fun_mk ?_ ?_ ?_ <;> try k_is)))
    (case aMx => k_is)
    (case FMx => (first | exact L2.fun_mk (by k_is) (by k_is) (by k_is) | (refine' L2.fun_mk ?_ ?_ ?_ <;> try k_is)))
    (case aRo => k_is)
    (case FRo => (first | exact L2.fun_mk (by k_is) (by k_is) (by k_is) | (refine' L2.fun_mk ?_ ?_ ?_ <;> try k_is)))
    (case aRs => k_is)
    (case FRs => (first | exact L2.fun_mk (by k_is) (by k_is) (by k_is) | (refine' L2.fun_mk ?_ ?_ ?_ <;> try k_is)))
    (case aRt => k_is)
    (case FRt => (first | exact L2.fun_mk (by k_is) (by k_is) (by k_is) | (refine' L2.fun_mk ?_ ?_ ?_ <;> try k_is)))
    (case aHe => k_is)
    (case FHe => (first | exact L2.fun_mk (by k_is) (by k_is) (by k_is) | (refine' L2.fun_mk ?_ ?_ ?_ <;> try k_is)))
    (case aLaw => k_is)
    (case FLaw => (first | exact L2.fun_mk (by k_is) (by k_is) (by k_is) | (refine' L2.fun_mk ?_ ?_ ?_ <;> try k_is)))
    (case z_abs => k_is)
    (case z_range => k_is)
    (case z_max => k_is)
    (case z_min => k_is)
    (case z_repr => k_is)
