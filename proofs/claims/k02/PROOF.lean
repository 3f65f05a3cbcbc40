import PyProof.Rows.All
import Wide.All
import OpenK.AllK
import Wide.FinOn
import HandS.ForMost
import HandS.ClsMeth
import HandS.Defaults
import HandS.IsInst
import HandS.Star
import HandS.Codes
import HandS.RaiseMore
import HandS.Style
import KE.GoesEnum
import OpenK.KOps
import HandS.CallLocal
import HandS.Conv
import HandS.OwnEq
import KE.GoesZip
import KE.GoesMore
import HandS.Iter
import HandS.Comp
import PyProof.MeetsIn
import PyProof.EqKinds
import HandS.Exc
import HandS.ExcInit
import HandS.ExcOwn
import HandS.ExcField
import HandS.ExcIs
import HandS.WordsExc
import KE.KExcIs
import KE.KIsAll
import HandS.ExcCtx
import HandS.Hot
import HandS.HotCalls
import HandS.SuiteRaise
import HandS.RaiseFrom
import HandS.ExcInitHot
import HandS.SortInts
import PyProof.Rows.SortShellAny
import KE.KDictKeyed
import HandS.CallSlots
import HandS.TupAny
import HandS.NoneIn
import HandS.Wide
import HandS.TupMul
import HandS.Deep
import HandS.Text
import HandS.MakeKwOnly
import PyProof.StrBlock2
import HandS.HeadHook3
import KE.KDictDisplayH
import HandS.Property
import HandS.TupLe
import HandS.More
import HandS.Lambda
import PyProof.ReprRoads
import HandS.Ends
import PySem.Challenge.RW_outermost_k02_rows_made
set_option Elab.async false
set_option linter.all false
set_option maxRecDepth 100000
set_option maxHeartbeats 4000000
section
/-! Own rules: str(x), x == y, x != y by an own class's methods (instances with a dict); C() without an __init__. -/
namespace Own
open PySem PySem.Spec PyProof.Rows L2

section
variable {prog : Program} {w : World} {M : Model} {A : Around} {E : Value → Shared → Prop} {s : Shared} {K : PySem.W.Frag} {x C f : Addr} {ox : Obj} {od : Option Obj}
/-- a special method that is a built-in's slot -/
theorem ifBound_B {name : Str} {id : String} {args : List Value} {Q : Option Value → Shared → Prop} (X : K.In s.heap) (I : PySem.W.InstAt s.heap x ox C od) (hs : PySem.W.findIn K (.ref C) name = some (some (.builtin id)))
    (hb : ∀ self, bindSpecial (.builtin id) self = pure (.builtin id, [self])) (h : wpAny M A (call (.builtin id) (.ref x :: args)) (fun v => Q (some v)) E s) : wpAny M A (callSpecialIfBound? (.ref x) name args) Q E s := by
  simp only [callSpecialIfBound?, bindSpecialIfBound?]
  refine wpAny_holding (wpAny_bind (wpAny_bind (wpAny_bind (I.type.here ((PySem.W.looks_findIn X hs).here ?_)))))
  refine wpAny_bind (wpAny_askSetting (wpAny_ite ?_))
  have fin : wpAny M A (call (.builtin id) ([.ref x] ++ args) >>= fun v => pure (some v)) Q E s := wpAny_bind (wpAny_mono h (fun v s' h' => wpAny_pure h') fun _ _ h' => h')
  split
  · exact wpAny_bind ((PySem.W.Looks.of_pure (hb _)).here (wpAny_pure (by exact fin)))
  · exact wpAny_tryCatch (wpAny_bind ((PySem.W.Looks.of_pure (hb _)).here (wpAny_pure (by exact fin))))
open Builtin in
/-- object.__ne__ asks the own __eq__ -/
theorem objNe {b : Value} {Q : Value → Shared → Prop} (hu : A.in1.units < cLine) (X : K.In s.heap) (I : PySem.W.InstAt s.heap x ox C od) (hm : PySem.W.mroIn K C (.type "object") = some true) (he : PySem.W.findIn K (.ref C) "__eq__" = some (some (.ref f))) (hf : PySem.W.isFn K (.ref f) = true)
    (h : wpAny (model prog w) A.in1 (call (.ref f) [.ref x, b]) (fun v s' => ∃ r, v = .bool r ∧ Q (.bool (!r)) s') E s) : wpAny (model prog w) A (call (.builtin "object.__ne__") [.ref x, b]) Q E s := by
  refine wpAny_call (codeAny_call_builtin PySem.F.cmp_object.ne.plain PySem.F.cmpEntry_ne (@PySem.W.check_slot (model prog w) _ _ s "object.__ne__" "object" "__ne__" (.ref x) [b] [] _ PySem.F.cmpKind_ne PySem.F.cmpSplit_ne (I.type.andThen (PySem.W.looks_mroIn X hm)) (PySem.F.cmpArgs_ne _ _) ?_))
  unfold Builtin.«object.__ne__»
  refine wpAny_bind (m := slotArgs "__ne__" 1 _) (wpAny_pure ?_)
  refine wpAny_bind (m := cRoomFor _ _) (wpAny_cRoomFor hu ?_)
  refine wpAny_bind (m := callSpecialIfBound? (.ref x) (Str.ofString "__eq__") _) (PySem.W.ifBound_K X I he hf (wpAny_mono h (fun r s' hq => ?_) fun _ _ y => y))
  obtain ⟨r, rfl, q⟩ := hq
  refine wpAny_bind (m := truthy (.bool r)) (wpAny_truthy_bool ?_)
  exact wpAny_pure q
/-- x != b where the class at C has an own __eq__ and object's __ne__ -/
theorem ne_K {b tb : Value} {Q : Value → Shared → Prop} (hu : A.units + 1 < cLine) (X : K.In s.heap) (I : PySem.W.InstAt s.heap x ox C od) (hb : PySem.W.Looks (model prog w) s.heap (typeOf b) tb) (hn : PySem.W.notFirst K C tb = true)
    (hs : PySem.W.findIn K (.ref C) "__ne__" = some (some (.builtin "object.__ne__"))) (hm : PySem.W.mroIn K C (.type "object") = some true) (he : PySem.W.findIn K (.ref C) "__eq__" = some (some (.ref f))) (hf : PySem.W.isFn K (.ref f) = true)
    (h : wpAny (model prog w) A.in1 (call (.ref f) [.ref x, b]) (fun v s' => ∃ r, v = .bool r ∧ Q (.bool (!r)) s') E s) : wpAny (model prog w) A (richCompare .NotEq (.ref x) b) Q E s := by
  have one : wpAny (model prog w) A (tryCompare (.ref x) (cmpInfo .NotEq).2.1 b) (fun r s' => ∃ v, r = some v ∧ Q v s') E s := by
    unfold tryCompare
    refine wpAny_bind (ifBound_B X I hs PySem.F.cmp_object.ne.bind (objNe (show A.units + 1 < cLine from hu) X I hm he hf (wpAny_mono h (fun v s' hv => ?_) fun _ _ e => e)))
    obtain ⟨r, rfl, q⟩ := hv
    exact ⟨r, rfl, wpAny_pure ⟨_, rfl, q⟩⟩
  unfold richCompare
  simp only [oneThing_ref]
  refine wpAny_holding (wpAny_bind (wpAny_cRoomFor (Nat.lt_of_succ_lt hu) ?_))
  refine wpAny_bind (I.type.here (wpAny_bind (hb.here ?_)))
  split
  · rename_i q
    have e : PySem.W.subIn K tb (.ref C) = some false := by
      rcases Bool.or_eq_true_iff.mp hn with e | e
      · rw [beq_iff_eq.mp e] at q; simp at q
      · exact beq_iff_eq.mp e
    refine wpAny_bind ((PySem.W.looks_subIn X e).here ?_)
    simp only [Bool.false_eq_true, if_false]
    refine wpAny_bind (wpAny_mono one (fun r s' z => ?_) fun _ _ e => e)
    obtain ⟨v, rfl, hq⟩ := z
    exact wpAny_pure hq
  · refine wpAny_bind (wpAny_pure ?_)
    simp only [Bool.false_eq_true, if_false]
    refine wpAny_bind (wpAny_mono one (fun r s' z => ?_) fun _ _ e => e)
    obtain ⟨v, rfl, hq⟩ := z
    exact wpAny_pure hq
end

/-! ### rules -/
/-- what str, ==, != and isinstance ask of an own class -/
structure OwnC (K : PySem.W.Frag) (C : Addr) (gs ge : Addr) : Prop where
  cl : Cls K C
  st : PySem.W.findIn K (.ref C) "__str__" = some (some (.ref gs))
  stf : PySem.W.isFn K (.ref gs) = true
  eq : PySem.W.findIn K (.ref C) "__eq__" = some (some (.ref ge))
  eqf : PySem.W.isFn K (.ref ge) = true
  ne : PySem.W.findIn K (.ref C) "__ne__" = some (some (.builtin "object.__ne__"))
  ca : PySem.W.findIn K (.ref C) "__class__" = some (some (.builtin "object.__class__"))
  cn : PySem.W.specialIn K (.builtin "object.__class__") "__get__" = some (some (.builtin "getset_descriptor.__get__"))
  ct : PySem.W.takesIn K (.builtin "object.__class__") = some true
  cm : PySem.W.mroIn K C (.type "object") = some true
theorem OwnC.ty {K : PySem.W.Frag} {C gs ge : Addr} (c : OwnC K C gs ge) {H : Hp} {a dx : Addr} {fs : List (Str × V)} (h : H a = some (.ins C dx fs)) : TyX K H (.ref a) (.ref C) :=
  .base (.ins h c.cl c.ca c.cn c.ct c.cm)
section
variable {X : Cx} {CX : CXT} {pins : List (Addr × Obj)} {σ : L2.St} {H : Hp} {s : Shared} {gs ge : Addr} {n : Nat} {sp : Sp} {E : XK}
theorem run_at {A : Around} {g : Addr} {Q : VK} {us : List Value} {ws : List V} (F : FnR X.prog X.w X.K X.mg X.base CX n g sp) (hr : Room n A) (e0 : Env0 X.prog X.w X.K X.mg X.base A X.stack s H) (hx : Passes CX X E) (I : Inv X pins σ H s) (r : Vals ws us) (h : sp ws H Q E) :
    codeAny (model X.prog X.w) A (.call (.ref g) ⟨us, []⟩) (fun r s' => match r with | .ok (.ret v) => EP X pins σ Q v s' | .ok _ => False | .error e => X.xe e s') s := by
  refine codeAny_mono (F A X.stack s H us ws Q E hr e0 r h) fun r s' hq => ?_
  cases r with
  | error e => exact hx pins σ H s e s' I hq
  | ok fl =>
    cases fl with
    | ret u => exact I.after hq
    | next => exact False.elim hq
    | brk => exact False.elim hq
    | cont => exact False.elim hq
/-- str(x): x an instance of a class whose __str__ is at gs -/
def rStrOwn (K : PySem.W.Frag) (gs : Addr) (sp : Sp) (E : XK) : List V → Hp → VK → Prop := fun xs H Q => ∃ a C dx fs ge, xs = [V.ref a] ∧ H a = some (.ins C dx fs) ∧ OwnC K C gs ge ∧ sp [.ref a] H (fun z H' => ∃ y, z = .str y ∧ Q z H') E
theorem call_strOwn (F : FnR X.prog X.w X.K X.mg X.base CX n gs sp) (hr : Room (n + 2) X.A) (hx : Passes CX X E) : CallR X (.type "str") (rStrOwn X.K gs sp E) := by
  intro pins s σ H xs us Q I r h
  obtain ⟨a, C, dx, fs, ge, rfl, ea, c, q⟩ := h
  obtain ⟨u, rfl, ru⟩ := r.one
  cases (show u = Value.ref a from ru)
  obtain ⟨mA, O, rr, _, _, _⟩ := ins_get I.hok ea
  obtain ⟨od, J, hl⟩ := O.look
  have hr2 : Room n X.A.in1.in1 := (show Room (n + 1) X.A.in1 from Room.in1 hr).in1
  refine PySem.W.kso_call hr2.units0 I.kIn J c.st c.stf (wpAny_mono (wpAny_call (run_at (us := [.ref a]) (ws := [.ref a]) F hr2 I.env0.in1.in1 hx I (.cons rfl .nil) q)) (fun w s' z => ?_) fun _ _ x => x)
  obtain ⟨z', H', I', rz, y, ey, qz⟩ := z
  subst ey
  obtain ⟨t, e⟩ := (show ∃ t, w = Value.str y t from rz)
  cases e
  exact ⟨.str y, H', I', ⟨t, rfl⟩, qz⟩
/-- x == y, x an instance of a class whose __eq__ is at ge, y anything that is not of a class below it -/
def rEqOwn (K : PySem.W.Frag) (ge : Addr) (sp : Sp) (E : XK) (f : Bool → Bool) : R2 := fun x y H Q => ∃ a C dx fs gs t, x = .ref a ∧ H a = some (.ins C dx fs) ∧ OwnC K C gs ge ∧ TyX K H y t ∧ PySem.W.notFirst K C t = true ∧ sp [x, y] H (fun z H' => ∃ b, z = .bl b ∧ Q (.bl (f b)) H') E
theorem op_eqOwn (F : FnR X.prog X.w X.K X.mg X.base CX n ge sp) (hr : Room n X.A) (hx : Passes CX X E) : OpR X (compareOp .Eq) (rEqOwn X.K ge sp E id) := by
  intro pins s σ H x y v u Q I rx ry h
  obtain ⟨a, C, dx, fs, gs, t, rfl, ea, c, ty, hn, q⟩ := h
  cases (show v = Value.ref a from rx)
  obtain ⟨mA, O, rr, _, _, _⟩ := ins_get I.hok ea
  obtain ⟨od, J, hl⟩ := O.look
  obtain ⟨P, Z, p, _⟩ := kit_of I ry ty
  obtain ⟨m, hF⟩ := I.fr
  show wpAny (model X.prog X.w) X.A (richCompare .Eq (.ref a) u) (EP X pins σ Q) X.xe s
  refine PySem.W.cmp_K (op := .Eq) (tb := t) hr.units0 hF I.ok.mod.kin J (Z.ty _ _ I.kIn p) hn c.eq c.eqf ?_
  refine wpAny_mono (wpAny_call (run_fnR (us := [.ref a, u]) (vs := [.ref a, y]) F hr hx I (.cons rfl (.cons ry .nil)) q)) (fun w s' z => ?_) fun _ _ x => x
  obtain ⟨z', H', I', rz, b, eb, qz⟩ := z
  subst eb
  cases (show w = Value.bool b from rz)
  exact ⟨.bl b, H', I', rfl, qz⟩
theorem op_neOwn (F : FnR X.prog X.w X.K X.mg X.base CX n ge sp) (hr : Room (n + 1) X.A) (hx : Passes CX X E) : OpR X (compareOp .NotEq) (rEqOwn X.K ge sp E not) := by
  intro pins s σ H x y v u Q I rx ry h
  obtain ⟨a, C, dx, fs, gs, t, rfl, ea, c, ty, hn, q⟩ := h
  cases (show v = Value.ref a from rx)
  obtain ⟨mA, O, rr, _, _, _⟩ := ins_get I.hok ea
  obtain ⟨od, J, hl⟩ := O.look
  obtain ⟨P, Z, p, _⟩ := kit_of I ry ty
  show wpAny (model X.prog X.w) X.A (richCompare .NotEq (.ref a) u) (EP X pins σ Q) X.xe s
  have hr1 : Room n X.A.in1 := hr.in1
  refine ne_K (hr1.units0) I.kIn J (Z.ty _ _ I.kIn p) hn c.ne c.cm c.eq c.eqf ?_
  refine wpAny_mono (wpAny_call (run_at (us := [.ref a, u]) (ws := [.ref a, y]) F hr1 I.env0.in1 hx I (.cons rfl (.cons ry .nil)) q)) (fun w s' z => ?_) fun _ _ x => x
  obtain ⟨z', H', I', rz, b, eb, qz⟩ := z
  subst eb
  cases (show w = Value.bool b from rz)
  exact ⟨b, rfl, .bl (!b), H', I', rfl, qz⟩
end

/-! ### C() of a class without an __init__ -/
structure MkO (K : PySem.W.Frag) (C : Addr) : Prop where
  makes : PySem.W.makesIn K C = true
  init : PySem.W.findIn K (.ref C) "__init__" = some (some (.builtin "object.__init__"))
  kp : PySem.W.keepIn K (.ref C) = true
  cm : PySem.W.mroIn K C (.type "object") = some true
def tMakeO (C : Addr) : TE := fun _ H Q => ∀ x dx, H x = none → H dx = none → dx ≠ x → Q (.ref x) (upd (upd H dx (.own x)) x (.ins C dx []))
section
variable {X : Cx} {pins : List (Addr × Obj)} {σ : L2.St} {H : Hp} {s : Shared} {C : Addr} {x : Str} {p pos : Pos}
theorem run_makeO {Q : VK} (M : MkO X.K C) (I : Inv X pins σ H s) (h : tMakeO C σ H Q) : wpAny (model X.prog X.w) X.A (call (.ref C) []) (EP X pins σ Q) X.xe s := by
  have hq := h (s.heap.objs.size + 1) s.heap.objs.size (I.hok.fresh (Nat.le_succ _)) (I.hok.fresh (Nat.le_refl _)) (Nat.ne_of_lt (Nat.lt_succ_self _))
  have I2 := Inv.made (C := C) I
  have hx : ((s.heap.push PySem.W.emptyDict).push (PySem.W.instObj C s.heap.objs.size)).get? (s.heap.objs.size + 1) = some (PySem.W.instObj C s.heap.objs.size) := by
    have := Heap.get?_push_size (s.heap.push PySem.W.emptyDict) (o := PySem.W.instObj C s.heap.objs.size) rfl
    rwa [Heap.size_push] at this
  have t1 : PySem.W.Looks (model X.prog X.w) ((s.heap.push PySem.W.emptyDict).push (PySem.W.instObj C s.heap.objs.size)) (typeOf (.ref (s.heap.objs.size + 1))) (.ref C) := (PySem.W.Looks.ld hx).andThen .now
  refine wpAny_call (make_map0 I.kIn M.makes M.init (fun self => PySem.W.Looks.of_pure (PySem.W.oi_bind self)) ?_)
  refine codeAny_call_builtin PySem.W.oi_plain PySem.W.entry_oi (@PySem.W.check_slot (model X.prog X.w) _ _ _ "object.__init__" "object" "__init__" (.ref (s.heap.objs.size + 1)) [] [] _ PySem.W.oi_kind PySem.W.oi_split (t1.andThen (PySem.W.looks_mroIn I2.kIn M.cm)) (PySem.W.oi_args _) ?_)
  rw [PySem.W.oi_run]
  exact wpAny_pure (And.intro rfl ⟨V.ref (s.heap.objs.size + 1), _, I2, rfl, hq⟩)
theorem pe_makeO (M : MkO X.K C) (hg : Gl X x) (hm : X.mg x = some (.ref C)) (hdb : (x == ("__debug__" : Str)) = false := by decide) : PE X (.Call (.Name x p) [] [] pos) (tMakeO C) := by
  refine ⟨fun pins s σ H Q I h => ?_⟩
  refine wpAny_Call_Name_kw (ld_glob I hg hm ?_ hdb)
  exact PySem.W.callWith_K0 I.kIn M.kp (run_makeO M I h)
end
end Own
end
section
/-! enumerate over a tuple, in a for. -/
namespace Own
open PySem PySem.Spec PyProof.Rows L2
open Sem (wp)
open AutoSeq1 (wpAny_loadPart')
abbrev enumO (n : Nat) : Obj := { cls := .type "enumerate", data := .fields #[.none, .bool false, .ref n, rawInt 0, .none, .none] }
theorem enum_mk1 {v : Value} {o : Obj} {Hh : Heap → Prop} (B : Begins v o Hh) :
    Meets (Builtin.«enumerate.__new__» ⟨[.type "enumerate", v], []⟩) (fun _ R z => Hh z.heap ∧ R (.ok (.ret (.ref (z.heap.push o).objs.size))) { z with heap := (z.heap.push o).push (enumO z.heap.objs.size) }) :=
  .of_wp fun pr wo Ar Re sh hyp => by
    obtain ⟨hp, ge, dr, tok, osx⟩ := sh
    obtain ⟨hb, hre⟩ := hyp
    have sbt := sub_enumerate
    have itr : ∀ {Aa : Around} {Ee : Value → Shared → Prop} {Qq : Value → Shared → Prop}, Qq (.ref hp.objs.size) ⟨hp.push o, ge, dr, tok, osx⟩ → wpAny (model pr wo) Aa (pyIter v) Qq Ee ⟨hp, ge, dr, tok, osx⟩ := fun q => B.iter pr wo _ _ ⟨hp, ge, dr, tok, osx⟩ _ hb q
    wp_walk using itr
    refine wpAny_stack_any fun stk => wpAny_pure ?_
    split
    · rename_i cl _ _ _ _ _
      cases (cl == Value.type "enumerate") <;> (wp_walk using itr; exact ⟨_, rfl, hre⟩)
    · wp_walk using itr
      exact ⟨_, rfl, hre⟩

section
variable {prog : Program} {w : World} {A : Around} {E : Value → Shared → Prop} {s : Shared}
theorem call_enum1 {v : Value} {o : Obj} {Hh : Heap → Prop} {Q : Value → Shared → Prop} (B : Begins v o Hh) (hb : Hh s.heap)
    (h : ∀ hp', IsEnum hp' (s.heap.objs.size + 1) s.heap.objs.size 0 .none → hp'.get? s.heap.objs.size = some o → (∀ b u, s.heap.get? b = some u → hp'.get? b = some u) → Q (.ref (s.heap.objs.size + 1)) { s with heap := hp' }) :
    wpAny (model prog w) A (call (.type "enumerate") [v]) Q E s := by
  refine callType_new F.called_enumerate (by decide) (F.typeCall_enumerate_1 _) (F.newCall_enumerate_1 _) (fun ob => F.args_object_init_2 ob _) F.entry_enumerate_new (enum_mk1 B) ⟨hb, ?_⟩
  have sz : (s.heap.push o).objs.size = s.heap.objs.size + 1 := Heap.size_push ..
  have ie : IsEnum ((s.heap.push o).push (enumO s.heap.objs.size)) (s.heap.objs.size + 1) s.heap.objs.size 0 .none := by
    have z := Heap.get?_push_size (s.heap.push o) (o := enumO s.heap.objs.size) rfl
    rw [sz] at z
    exact z
  show _ ∧ _
  rw [sz]
  exact ⟨⟨_, ie, rfl⟩, h _ ie (Heap.get?_push_of_some _ (Heap.get?_push_size _ B.free)) fun b u x => Heap.get?_push_of_some _ (Heap.get?_push_of_some _ x)⟩
end
theorem drawsEnd {prog : Program} {w : World} {A : Around} (hh : A.handled = none) (it t : Addr) (items : Array Value) (n : Nat) (hn : items.size ≤ n) :
    Draws prog w A it [it, t] n (fun _ _ => False) (fun j h => h.IsTupleIter it t j ∧ h.IsTuple t items ∧ n ≤ j) where
  live := fun _ _ st => let ⟨o, ho, _⟩ := st.1; ⟨o, ho⟩
  frame := fun _ _ _ st hk => ⟨st.1.at fun o e => hk it (by simp) o e, st.2.1.at fun o e => hk t (by simp) o e, st.2.2⟩
  item := fun i s Q E hi st _ => absurd hi (Nat.not_lt.mpr st.2.2)
  done := fun s Q E st hE => wpAny_nextOf_tuple_end hh st.1 st.2.1 (by simp; omega) hE
/-- the tuple at a as it stands at each turn, each item in a new pair -/
def IteT (K : PySem.W.Frag) (a : Addr) : It :=
  ⟨fun i H => ∃ (xs : List V) (x : V), SqT K H a xs ∧ xs[i]? = some x,
   fun i H v H' => ∃ T x, v = .ref T ∧ H T = none ∧ H' = upd H T (.tup [.int (i : Nat), x]) ∧ ∀ xs, SqT K H a xs → xs[i]? = some x,
   fun i H => ∃ xs : List V, SqT K H a xs ∧ xs.length ≤ i⟩
theorem turn_enumT {P : Program} {w : World} {K : PySem.W.Frag} {elts : List Expr} {kk : Nat} {tpos : Pos} (a e it : Addr) :
    Turn P w K (.Tuple elts kk tpos) (IteT K a) [e, it] e (fun i h => (∃ old, IsEnum h e it ((i : Nat) : Int) old) ∧ h.IsTupleIter it a i ∧ e ≠ it) where
  mem := by simp
  obj := fun i h st b hb => by
    have z : b = e ∨ b = it := by simpa using hb
    have k := st.2.1
    obtain ⟨u, he⟩ := st.1
    cases z with
    | inl z => exact z ▸ ⟨_, he, fun v q => nomatch q⟩
    | inr z =>
      obtain ⟨ob, h1, _, h3⟩ := k
      exact z ▸ ⟨ob, h1, fun v q => nomatch h3.symm.trans q⟩
  keep := fun i h h' st k => by
    obtain ⟨⟨old, he⟩, ⟨o, ho, hr⟩, hne⟩ := st
    exact ⟨⟨old, k e (by simp) _ he⟩, ⟨o, k it (by simp) o ho, hr⟩, hne⟩
  item := by
    intro X hP hw hK hc i pins s σ H E I hf st hg
    subst hP hw hK
    obtain ⟨⟨old, he⟩, hit, hne⟩ := st
    obtain ⟨xs, x, hq, hx⟩ := hg
    obtain ⟨its, rv, p, hz⟩ := I.tuple hq
    obtain ⟨u, hu, ru⟩ := rv.get hx
    have le : e < s.heap.objs.size := Heap.lt_size he
    have li : it < s.heap.objs.size := by obtain ⟨_, q, _⟩ := hit; exact Heap.lt_size q
    have ait : a ≠ it := fun z => by
      obtain ⟨o, ho, hcl, _⟩ := hit
      obtain ⟨o2, ho2, hcl2, _⟩ := p
      have q : o = o2 := Option.some.inj (ho.symm.trans ((congrArg _ z.symm).trans ho2))
      subst q
      exact absurd (hcl.symm.trans hcl2) (by decide)
    have ae : e ≠ a := fun z => by
      obtain ⟨o2, ho2, hcl2, _⟩ := p
      have q := Option.some.inj ((show s.heap.get? e = some _ from he).symm.trans ((congrArg _ z).trans ho2))
      subst q
      exact absurd (show Value.type "enumerate" = Value.type "tuple" from hcl2) (by decide)
    have D := Draws.tuple (prog := X.prog) (w := X.w) (A := X.A.in1) (show X.A.in1.handled = none from I.ok.hd hc) it a ait its.toArray
    have hlt : i < its.toArray.size := by
      have q := (List.getElem?_eq_some_iff.mp hu).1
      simpa using q
    refine wpAny_pyNext_enum_itemD D he ⟨hit, p⟩ hlt hne (by simp [hne, ae]) fun y h' tk hP ho hit' hT hsz hk => ?_
    have ey : y = u := by
      have q : its.toArray[i]? = some u := by simpa using hu
      exact Option.some.inj (hP.symm.trans q)
    subst ey
    refine ⟨_, rfl, wpAny_letOwnedTupleGo_enum (s := { s with heap := h', toks := tk + 1 }) ho fun h2 he2 sb => ?_⟩
    have nel : s.heap.objs.size ≠ e := Nat.ne_of_gt le
    have new : ObjOk X.prog X.w (upd H s.heap.objs.size (.tup [.int (i : Nat), x])) h2 s.heap.objs.size (.tup [.int (i : Nat), x]) :=
      ⟨by show 2 ≤ sizeLine; decide, [.int i tk, y], .cons ⟨_, rfl⟩ (.cons ru .nil), ⟨_, (sb.2 _ nel).trans hT, rfl, _, rfl⟩⟩
    have J : Inv X pins σ (upd H s.heap.objs.size (.tup [.int (i : Nat), x])) { s with heap := h2, toks := tk + 1 } :=
      I.turnedNew (ch := [e, it]) (fun b ob hb q => (sb.2 b (fun z => hb (by simp [z]))).trans (hk b ob (fun z => hb (by simp [z])) (fun z => hb (by simp [z])) q)) hf (Nat.le_refl _) new
    obtain ⟨oi, hoi, hri⟩ := hit'.1
    refine ⟨.ref s.heap.objs.size, _, J, rfl, ⟨_, x, rfl, I.hok.fresh (Nat.le_refl _), rfl, fun ys hy => ?_⟩, ⟨⟨y, ?_⟩, ⟨oi, (sb.2 it (Ne.symm hne)).trans hoi, hri⟩, hne⟩, fun b hb => ?_⟩
    · rw [I.tuple_inj hy hq]
      exact hx
    · rw [(by omega : ((i + 1 : Nat) : Int) = (i : Int) + 1)]
      exact he2
    · have lb : b < s.heap.objs.size := by
        rcases (by simpa using hb : b = e ∨ b = it) with z | z <;> rw [z] <;> assumption
      rw [upd_ne (Nat.ne_of_lt lb)]
      exact (hf b hb).1
  done := by
    intro X hP hw hK hc i pins s σ H E I hf st hg
    subst hP hw hK
    have hit := st.2.1
    obtain ⟨u, he⟩ := st.1
    obtain ⟨xs, hq, hx⟩ := hg
    obtain ⟨its, rv, p, hz⟩ := I.tuple hq
    have hl := rv.length
    have D := drawsEnd (prog := X.prog) (w := X.w) (A := X.A.in1) (show X.A.in1.handled = none from I.ok.hd hc) it a its.toArray i (by simp; omega)
    obtain ⟨f0, f1, f2, f3, f4, f5⟩ := hf it (by simp)
    exact wpAny_pyNext_enum_endD D he ⟨hit, p, Nat.le_refl _⟩ fun h' eb => ⟨rfl, I.turned (t' := s.toks) (fun b o hb q => eb b o hb q) f0 f1 f3 f4 f5⟩
  self := fun A i s Q E st h => let ⟨⟨_, he⟩, _⟩ := st; wpAny_pyIter_enum he h
/-- enumerate of a list or of a tuple -/
def iEnumS (K : PySem.W.Frag) (ta : TA) : TI := fun σ H R => ta σ H fun vs H1 => ∃ a xs, vs = [.ref a] ∧ ((SqL K H1 a xs ∧ R (Ite K a) H1) ∨ (SqT K H1 a xs ∧ R (IteT K a) H1))
theorem pi_enumS {X : Cx} {e : Expr} {ta : TA} {p pos tpos : Pos} {elts : List Expr} {kk : Nat} (hg : Gl X "enumerate") (hm : X.mg "enumerate" = none) (ha : PA X [e] ta) (hs : starEach [e] X.env = [(false, eval e X.env)] := by rfl) :
    PI X (.Tuple elts kk tpos) (.Call (.Name "enumerate" p) [e] [] pos) (iEnumS X.K ta) := ⟨fun pins s σ H R I h => by
  refine Call_ (ld_blt I hg hm boot_enumerate (PyProof.Rows.callWith_type1 (thn (ha.run pos pins s σ H _ I h) fun us s1 w1 => ?_) hs rfl))
  obtain ⟨vs, H1, J, rr, a, xs, ex, q⟩ := w1
  subst ex
  have ru : us = [.ref a] := by
    cases rr with
    | cons r t => cases t; cases r; rfl
  subst ru
  have fpe : ∀ b ∈ [s1.heap.objs.size + 1, s1.heap.objs.size], FpOk X pins H1 b := fun b hb => by
    have hle : s1.heap.objs.size ≤ b := by
      have z : b = s1.heap.objs.size + 1 ∨ b = s1.heap.objs.size := by simpa using hb
      omega
    exact J.fpOk hle (J.hok.fresh hle)
  rcases q with ⟨hq, q⟩ | ⟨hq, q⟩
  · obtain ⟨its, rv, pl, hz⟩ := J.list hq
    exact call_enumerate_list pl.isList fun h' he hit hsz hk => wpAny_pyIter_enum he
      ⟨s1.heap.objs.size + 1, [s1.heap.objs.size + 1, s1.heap.objs.size], _, _, H1, rfl, (J.kept (t' := s1.toks) hk : Inv X pins σ H1 { s1 with heap := h' }), turn_enum a (s1.heap.objs.size + 1) s1.heap.objs.size, ⟨⟨.none, he⟩, hit, Nat.succ_ne_self _⟩, fpe, q⟩
  · obtain ⟨its, rv, pl, hz⟩ := J.tuple hq
    refine call_enum1 (begins_tuple a its.toArray) pl fun h' he hit hk => wpAny_pyIter_enum he ?_
    exact ⟨s1.heap.objs.size + 1, [s1.heap.objs.size + 1, s1.heap.objs.size], _, _, H1, rfl, (J.kept (t' := s1.toks) hk : Inv X pins σ H1 { s1 with heap := h' }), turn_enumT a (s1.heap.objs.size + 1) s1.heap.objs.size, ⟨⟨.none, he⟩, ⟨_, hit, rfl, rfl⟩, Nat.succ_ne_self _⟩, fpe, q⟩⟩
end Own
end
section
/-! More own rules: len(x) by an own __len__, a class that a local holds, lists and tuples by isinstance, walks over enumerate. -/
namespace Own
open PySem PySem.Spec PyProof.Rows L2
section
variable {X : Cx} {CX : CXT} {pins : List (Addr × Obj)} {σ : L2.St} {H : Hp} {s : Shared} {gl : Addr} {n : Nat} {sp : Sp} {E : XK}
/-- len(x): x an instance of a class whose __len__ is at gl -/
def rLenOwn (K : PySem.W.Frag) (gl : Addr) (sp : Sp) (E : XK) : List V → Hp → VK → Prop := fun xs H Q => ∃ a C dx fs, xs = [V.ref a] ∧ H a = some (.ins C dx fs) ∧
  PySem.W.findIn K (.ref C) "__len__" = some (some (.ref gl)) ∧ PySem.W.isFn K (.ref gl) = true ∧ sp [.ref a] H (fun z H' => ∃ k : Int, z = .int k ∧ 0 ≤ k ∧ k < 2 ^ 63 ∧ Q z H') E
theorem call_lenOwn (F : FnR X.prog X.w X.K X.mg X.base CX n gl sp) (hr : Room (n + 1) X.A) (hx : Passes CX X E) : CallR X (.builtin "len") (rLenOwn X.K gl sp E) := by
  intro pins s σ H xs us Q I r h
  obtain ⟨a, C, dx, fs, rfl, ea, hl, hf, q⟩ := h
  obtain ⟨u, rfl, ru⟩ := r.one
  cases (show u = Value.ref a from ru)
  obtain ⟨mA, O, rr, _, _, _⟩ := ins_get I.hok ea
  obtain ⟨od, J, _⟩ := O.look
  have hr1 : Room n X.A.in1 := hr.in1
  obtain ⟨m, hF⟩ := I.fr
  refine PySem.W.len_K hF I.ok.mod.kin J hl hf (wpAny_mono (wpAny_call (run_at (us := [.ref a]) (ws := [.ref a]) F hr1 I.env0.in1 hx I (.cons rfl .nil) q)) (fun w s' z => ?_) fun _ _ x => x)
  obtain ⟨z', H', I', rz, k, ek, k0, k1, qz⟩ := z
  subst ek
  obtain ⟨t, e⟩ := (show ∃ t, w = Value.int k t from rz)
  cases e
  exact ⟨⟨k0, k1⟩, .int k, H', I'.tok _, ⟨_, rfl⟩, qz⟩
end
/-! ### C(..), C a class that a local holds -/
def tMakeL (i : Nat) (C : Addr) (sp : Sp) (dvs : List V) (E : XK) (t : TA) : TE := fun σ H Q => σ[i]? = some (some (.ref C)) ∧ tMake C sp dvs E t σ H Q
section
variable {X : Cx} {CX : CXT} {k i : Nat} {C f : Addr} {fd : FuncData} {ps : List Str} {sp : Sp} {dvs : List V} {ds : List Value} {E : XK} {x : Str} {p pos : Pos} {e : Expr} {es : List Expr} {t : TA}
theorem pe_makeL (M : Mk X.K C f) (F : FnOk X.prog X.w X.K X.mg X.base CX k f fd ps sp) (hr : Room (k + 1) X.A) (hN : X.N[i]? = some x) (hv : Vis X.env.scope x) (hb : Binds X.K fd ps ds) (hd : Vals dvs ds) (hx : Passes CX X E) (ha : PA X (e :: es) t)
    (hdb : (x == ("__debug__" : Str)) = false := by decide) (hcd : (x == ("__classdict__" : Str)) = false := by decide)
    (he : starEach (e :: es) X.env = (false, eval e X.env) :: starEach es X.env := by rfl) (hpl : (backTo pos (starEach es X.env)).any (·.1) = false := by rfl) : PE X (.Call (.Name x p) (e :: es) [] pos) (tMakeL i C sp dvs E t) := ⟨fun pins s σ H Q I ⟨hs, ht⟩ => by
  refine wpAny_Call_Name_kw (thn ((pe_var (pos := p) hN hv hdb hcd).run pins s σ H (fun y H1 => y = .ref C ∧ H1 = H) I ⟨.ref C, hs, rfl, rfl⟩) fun u s1 w1 => ?_)
  obtain ⟨y, H1, J, ry, ey, eh⟩ := w1
  subst ey eh
  cases ry
  exact PySem.W.callWith_K (h₀ := X.base) J.ok.mod.kin M.kp (thn (ha.run pos pins s1 σ _ _ J ht) fun us s2 ⟨vs, H2, J2, r, q⟩ => ⟨J2.kIn, run_make M F hr hb hd hx J2 r q⟩) he hpl⟩
theorem pe_makeL0 (M : Mk X.K C f) (F : FnOk X.prog X.w X.K X.mg X.base CX k f fd ps sp) (hr : Room (k + 1) X.A) (hN : X.N[i]? = some x) (hv : Vis X.env.scope x) (hb : Binds X.K fd ps ds) (hd : Vals dvs ds) (hx : Passes CX X E)
    (hdb : (x == ("__debug__" : Str)) = false := by decide) (hcd : (x == ("__classdict__" : Str)) = false := by decide) : PE X (.Call (.Name x p) [] [] pos) (tMakeL i C sp dvs E tNil) := ⟨fun pins s σ H Q I ⟨hs, ht⟩ => by
  refine wpAny_Call_Name_kw (thn ((pe_var (pos := p) hN hv hdb hcd).run pins s σ H (fun y H1 => y = .ref C ∧ H1 = H) I ⟨.ref C, hs, rfl, rfl⟩) fun u s1 w1 => ?_)
  obtain ⟨y, H1, J, ry, ey, eh⟩ := w1
  subst ey eh
  cases ry
  exact PySem.W.callWith_K0 J.kIn M.kp (run_make (us := []) M F hr hb hd hx J .nil ht)⟩
end
/-! ### lists and tuples -/
theorem tyL {K : PySem.W.Frag} {H : Hp} {a : Addr} {xs : List V} (h : SqL K H a xs) : TyX K H (.ref a) (.type "list") := by
  rcases h with (h | ⟨o, h⟩) | ⟨o, its, n, h, c, _⟩
  · exact .base (.lst h)
  · exact .base (.frz h)
  · exact .kList h c
theorem tyT {K : PySem.W.Frag} {H : Hp} {a : Addr} {xs : List V} (h : SqT K H a xs) : TyX K H (.ref a) (.type "tuple") := by
  rcases h with (h | ⟨o, h⟩) | ⟨o, its, n, h, c, _⟩
  · exact .base (.tup h)
  · exact .fTuple h
  · exact .kTuple h c
/-- a list or a tuple -/
def SqS (K : PySem.W.Frag) (H : Hp) (a : Addr) (xs : List V) : Prop := SqL K H a xs ∨ SqT K H a xs
theorem SqT.sm {K : PySem.W.Frag} {H H' : Hp} {a : Addr} {xs : List V} (h : SqT K H a xs) (e : Same H H') : SqT K H' a xs :=
  h.elim (fun h => .inl (h.elim (fun h => .inl (e _ _ h)) fun ⟨o, h⟩ => .inr ⟨o, e _ _ h⟩)) .inr
theorem SqS.sm {K : PySem.W.Frag} {H H' : Hp} {a : Addr} {xs : List V} (h : SqS K H a xs) (e : Same H H') : SqS K H' a xs := h.elim (fun h => .inl (e.seq h)) fun h => .inr (SqT.sm h e)
/-- a for over enumerate of a list -/
theorem for_enumL {K : PySem.W.Frag} {a : Addr} {xs : List V} {g : TG} {tb : TS} {D : Ends} {σ : L2.St} {H : Hp} (Pv : Nat → L2.St → Hp → Prop) (h0 : Pv 0 σ H) (hl : ∀ i τ G, i ≤ xs.length → Pv i τ G → SqL K G a xs)
    (hs : ∀ i x τ G T, xs[i]? = some x → Pv i τ G → G T = none → g (.ref T) τ (upd G T (.tup [.int (i : Nat), x])) fun τ2 G2 => tb { D with nx := Pv (i + 1), ct := Pv (i + 1), bk := D.nx } τ2 G2) (hd : ∀ τ G, Pv xs.length τ G → D.nx τ G) :
    ∃ W : Nat → Nat → L2.St → Hp → Prop, (∃ m, W 0 m σ H) ∧ ∀ i m τ G, W i m τ G →
      ((Ite K a).stop i G ∧ D.nx τ G) ∨ ((Ite K a).go i G ∧ ∃ N : L2.St → Hp → Prop, (∀ τ' G', N τ' G' → ∃ m', m' < m ∧ W (i + 1) m' τ' G') ∧ ∀ x G', (Ite K a).yld i G x G' → g x τ G' fun τ2 G2 => tb { D with nx := N, ct := N, bk := D.nx } τ2 G2) := by
  refine ⟨fun i m τ G => m = xs.length - i ∧ i ≤ xs.length ∧ Pv i τ G, ⟨xs.length, by simp, Nat.zero_le _, h0⟩, fun i m τ G z => ?_⟩
  obtain ⟨rfl, hi, p⟩ := z
  have q := hl i τ G hi p
  rcases Nat.lt_or_eq_of_le hi with lt | e
  · refine .inr ⟨⟨xs, xs[i], q, List.getElem?_eq_getElem lt⟩, Pv (i + 1), fun τ' G' p' => ⟨xs.length - (i + 1), by omega, rfl, lt, p'⟩, fun y G' z => ?_⟩
    obtain ⟨T, x, rfl, hT, rfl, hx⟩ := z
    exact hs i x τ G T (hx xs q) p hT
  · exact .inl ⟨⟨xs, q, Nat.le_of_eq e.symm⟩, hd τ G (e ▸ p)⟩
/-- .. of a tuple -/
theorem for_enumT {K : PySem.W.Frag} {a : Addr} {xs : List V} {g : TG} {tb : TS} {D : Ends} {σ : L2.St} {H : Hp} (Pv : Nat → L2.St → Hp → Prop) (h0 : Pv 0 σ H) (hl : ∀ i τ G, i ≤ xs.length → Pv i τ G → SqT K G a xs)
    (hs : ∀ i x τ G T, xs[i]? = some x → Pv i τ G → G T = none → g (.ref T) τ (upd G T (.tup [.int (i : Nat), x])) fun τ2 G2 => tb { D with nx := Pv (i + 1), ct := Pv (i + 1), bk := D.nx } τ2 G2) (hd : ∀ τ G, Pv xs.length τ G → D.nx τ G) :
    ∃ W : Nat → Nat → L2.St → Hp → Prop, (∃ m, W 0 m σ H) ∧ ∀ i m τ G, W i m τ G →
      ((IteT K a).stop i G ∧ D.nx τ G) ∨ ((IteT K a).go i G ∧ ∃ N : L2.St → Hp → Prop, (∀ τ' G', N τ' G' → ∃ m', m' < m ∧ W (i + 1) m' τ' G') ∧ ∀ x G', (IteT K a).yld i G x G' → g x τ G' fun τ2 G2 => tb { D with nx := N, ct := N, bk := D.nx } τ2 G2) := by
  refine ⟨fun i m τ G => m = xs.length - i ∧ i ≤ xs.length ∧ Pv i τ G, ⟨xs.length, by simp, Nat.zero_le _, h0⟩, fun i m τ G z => ?_⟩
  obtain ⟨rfl, hi, p⟩ := z
  have q := hl i τ G hi p
  rcases Nat.lt_or_eq_of_le hi with lt | e
  · refine .inr ⟨⟨xs, xs[i], q, List.getElem?_eq_getElem lt⟩, Pv (i + 1), fun τ' G' p' => ⟨xs.length - (i + 1), by omega, rfl, lt, p'⟩, fun y G' z => ?_⟩
    obtain ⟨T, x, rfl, hT, rfl, hx⟩ := z
    exact hs i x τ G T (hx xs q) p hT
  · exact .inl ⟨⟨xs, q, Nat.le_of_eq e.symm⟩, hd τ G (e ▸ p)⟩
end Own
end
section
/-! Own rules: x + y by an own __add__, x[i] by an own __getitem__. -/
namespace Own
open PySem PySem.Spec PyProof.Rows L2
section
variable {X : Cx} {CX : CXT} {f : Addr} {n : Nat} {sp : Sp} {E : XK}
/-- x + y: both of one class, its __add__ at f -/
def rAddOwn (K : PySem.W.Frag) (f : Addr) (sp : Sp) (E : XK) : R2 := fun x y H Q => ∃ a b C dx fs dy hs, x = .ref a ∧ y = .ref b ∧ H a = some (.ins C dx fs) ∧ H b = some (.ins C dy hs) ∧ PySem.W.selfFirst K C = true ∧
  PySem.W.findIn K (.ref C) "__add__" = some (some (.ref f)) ∧ PySem.W.isFn K (.ref f) = true ∧ sp [x, y] H (fun z H' => (∃ p, z = .ref p) ∧ Q z H') E
theorem op_addOwn (F : FnR X.prog X.w X.K X.mg X.base CX n f sp) (hr : Room n X.A) (hx : Passes CX X E) : OpR X (binaryOp .Add) (rAddOwn X.K f sp E) := fun pins s σ H x y v u Q I rx ry h => by
  obtain ⟨a, b, C, dx, fs, dy, hs, rfl, rfl, ea, eb, hsf, hfi, hf, q⟩ := h
  cases rx
  cases ry
  obtain ⟨_, O, _⟩ := ins_get I.hok ea
  obtain ⟨_, O', _⟩ := ins_get I.hok eb
  obtain ⟨od, J, _⟩ := O.look
  obtain ⟨od', J', _⟩ := O'.look
  obtain ⟨m, hF⟩ := I.fr
  refine PySem.W.binop_K (op := .Add) hF I.ok.mod.kin J J'.type hsf hfi hf ?_
  refine wpAny_mono (wpAny_call (run_fnR (us := [.ref a, .ref b]) (vs := [.ref a, .ref b]) F hr hx I (.cons rfl (.cons rfl .nil)) q)) (fun w s' z => ?_) fun _ _ x => x
  obtain ⟨z', H', J2, rz, ⟨p, ep⟩, qz⟩ := z
  subst ep
  cases (show w = Value.ref p from rz)
  exact ⟨.ref p, H', J2, rfl, qz⟩
/-- x[i]: the __getitem__ of x's class at f -/
def rIxOwn (K : PySem.W.Frag) (f : Addr) (sp : Sp) (E : XK) : R2 := fun x y H Q => ∃ a C dx fs, x = .ref a ∧ H a = some (.ins C dx fs) ∧
  PySem.W.findIn K (.ref C) "__getitem__" = some (some (.ref f)) ∧ PySem.W.fnIn K f = true ∧ PySem.W.isFn K (.ref f) = true ∧ sp [x, y] H Q E
theorem pe_ixOwn {a b : Expr} {ta tb : TE} {pos : Pos} (F : FnR X.prog X.w X.K X.mg X.base CX n f sp) (hr : Room (n + 1) X.A) (hx : Passes CX X E) (ha : PE X a ta) (hb : PE X b tb)
    (hsl : ∀ v i, subscripted b true v i = runValue (.builtin "lifetime.subscript" ⟨[v, i], []⟩)) : PE X (.Subscript a b pos) (tOp (rIxOwn X.K f sp E) ta tb) := ⟨fun pins s σ H Q I h => Subscript_ (binT ha hb I h fun v u s2 x y H2 J0 rx ry q => by
  obtain ⟨a', C, dx, fs, rfl, ea, hfi, hn, hf, q⟩ := q
  cases rx
  obtain ⟨_, O, _⟩ := ins_get J0.hok ea
  obtain ⟨od, J, _⟩ := O.look
  obtain ⟨m, hF⟩ := J0.fr
  have hr1 : Room n X.A.in1 := hr.in1
  exact PySem.W.sub_K hF J0.ok.mod.kin J hfi hn hf (wpAny_call (run_at (us := [.ref a', u]) (ws := [.ref a', y]) F hr1 J0.env0.in1 hx J0 (.cons rfl (.cons ry .nil)) q)) (hsl _ _))⟩
end
/-! ### x += y where the class has an own __add__ and no __iadd__ -/
theorem noI_object : typeLookup (.type "object") (PySem.dunderI "add") = pure none := by rw [typeLookup_type, builtinLookup_eq_fast]; kernel_rfl
theorem no_inplace {M : Model} {h : Heap} {K : PySem.W.Frag} {C : Addr} {cd : ClassData} (X : K.In h) (hc : PySem.W.clsIn K C = some cd) (hm : cd.mro = [.ref C, .type "object"]) (hs : PySem.W.findIn K (.ref C) (PySem.dunderI "add") = some none) :
    PySem.W.Looks M h (fillsInplaceSlot (.ref C) "add" true) false := by
  intro A Q E s k q
  unfold fillsInplaceSlot
  refine wpAny_bind ((PySem.W.looks_clsIn X hc).andThen (f := fun cd => pure cd.mro) .now A _ E s k ?_)
  rw [hm, List.anyM_cons]
  refine wpAny_bind (wpAny_bind (PySem.W.looks_findIn X hs A _ E s k ?_))
  refine wpAny_pure ?_
  rw [if_neg Bool.false_ne_true, List.anyM_cons]
  refine wpAny_bind (wpAny_bind (wpAny_of_eq noI_object (wpAny_pure (wpAny_pure ?_))))
  exact q
section
variable {prog : Program} {w : World} {A : Around} {E : Value → Shared → Prop} {s : Shared} {K : PySem.W.Frag} {x C L f : Addr} {h₀ : Heap} {m : Str → Option Value} {ox : Obj} {od : Option Obj}
theorem iadd_K {b : Value} {cd : ClassData} {Q : Value → Shared → Prop} (X : K.In s.heap) (I : PySem.W.InstAt s.heap x ox C od) (hb : PySem.W.Looks (model prog w) s.heap (typeOf b) (.ref C)) (hc : PySem.W.clsIn K C = some cd) (hm : cd.mro = [.ref C, .type "object"])
    (hi : PySem.W.findIn K (.ref C) (PySem.dunderI "add") = some none) (hs : PySem.W.findIn K (.ref C) (PySem.dunder "add") = some (some (.ref f))) (hf : PySem.W.isFn K (.ref f) = true)
    (h : wpAny (model prog w) A (call (.ref f) [.ref x, b]) (PySem.W.CmpBack Q) E s) : wpAny (model prog w) A (inplaceOp .Add (.ref x) b) Q E s := by
  unfold inplaceOp
  refine wpAny_holding (wpAny_bind (I.type.here (wpAny_bind ((no_inplace X hc hm hi).here ?_))))
  simp only [Bool.false_eq_true, if_false]
  refine wpAny_bind (m := binaryOp1 _ _ _) ?_
  unfold binaryOp1
  refine wpAny_bind (I.type.here (wpAny_bind (hb.here (wpAny_bind ((PySem.W.fills_K X hc hm hs).here ?_)))))
  simp only [beq_self_eq_true, if_true]
  refine wpAny_bind (wpAny_pure ?_)
  simp only [Bool.and_false, Bool.false_eq_true, if_false, Bool.false_and]
  refine wpAny_bind (wpAny_pure ?_)
  simp only [Bool.false_eq_true, if_false]
  refine wpAny_bind (m := tryMethod (.ref x) _ b) ?_
  unfold tryMethod
  refine wpAny_bind (PySem.W.special_fn X I hs (beq_iff_eq.mp hf) (wpAny_mono h (fun v s' hv => ?_) fun _ _ e => e))
  cases v <;> first | exact hv.elim | exact wpAny_pure (wpAny_pure (wpAny_pure hv))
end
section
variable {X : Cx} {CX : CXT} {f : Addr} {n : Nat} {sp : Sp} {E : XK}
def iAddOwn (K : PySem.W.Frag) (f : Addr) (sp : Sp) (E : XK) : TIp := fun x y H Q => ∃ a b C dx fs dy hs cd, x = .ref a ∧ y = .ref b ∧ H a = some (.ins C dx fs) ∧ H b = some (.ins C dy hs) ∧ PySem.W.clsIn K C = some cd ∧ cd.mro = [.ref C, .type "object"] ∧
  PySem.W.findIn K (.ref C) (PySem.dunderI "add") = some none ∧ PySem.W.findIn K (.ref C) "__add__" = some (some (.ref f)) ∧ PySem.W.isFn K (.ref f) = true ∧ sp [x, y] H (fun z H' => (∃ p, z = .ref p) ∧ Q z H') E
theorem ip_addOwn (F : FnR X.prog X.w X.K X.mg X.base CX n f sp) (hr : Room n X.A) (hx : Passes CX X E) : PIp X .Add (iAddOwn X.K f sp E) := fun pins s σ H x y v u Q I rx ry h => by
  obtain ⟨a, b, C, dx, fs, dy, hs, cd, rfl, rfl, ea, eb, hc, hm, hi, hfi, hf, q⟩ := h
  cases rx
  cases ry
  obtain ⟨_, O, _⟩ := ins_get I.hok ea
  obtain ⟨_, O', _⟩ := ins_get I.hok eb
  obtain ⟨od, J, _⟩ := O.look
  obtain ⟨od', J', _⟩ := O'.look
  refine iadd_K I.kIn J J'.type hc hm hi hfi hf ?_
  refine wpAny_mono (wpAny_call (run_fnR (us := [.ref a, .ref b]) (vs := [.ref a, .ref b]) F hr hx I (.cons rfl (.cons rfl .nil)) q)) (fun w s' z => ?_) fun _ _ x => x
  obtain ⟨z', H', J2, rz, ⟨p, ep⟩, qz⟩ := z
  subst ep
  cases (show w = Value.ref p from rz)
  exact ⟨.ref p, H', J2, rfl, qz⟩
end
end Own
end
section
/-! == and != of lists whose items are compared by an own __eq__: both answers. -/
namespace Own
open PySem PySem.SeqAt
open AutoSeq1 (wpAny_loadPart')
open MeetsSeq MeetsSeq2 MeetsSeq3 SeqRoads2
section
variable {prog : Program} {w : World} {A : Around} {R : Result → Shared → Prop}
def Two (l b : Addr) (N : Nat) (s : Shared) : Prop := ∃ (xs ys : Array Value) (n m : Nat), s.heap.get? l = some { cls := .type "list", data := .seq xs n } ∧ s.heap.get? b = some { cls := .type "list", data := .seq ys m } ∧ xs.size = N ∧ ys.size = N
def TwoI (prog : Program) (w : World) (A : Around) (R : Result → Shared → Prop) (ne : Bool) (l b : Addr) (N : Nat) (I : Nat → Shared → Prop) : Prop :=
  ∀ i s, I i s → ∃ (xs ys : Array Value) (n m : Nat), s.heap.get? l = some { cls := .type "list", data := .seq xs n } ∧ s.heap.get? b = some { cls := .type "list", data := .seq ys m } ∧ xs.size = N ∧ ys.size = N ∧
    ∀ (h1 : i < xs.size) (h2 : i < ys.size), wpAny (model prog w) A.in1 (eqBool xs[i] ys[i]) (fun r s' => (r = true ∧ I (i + 1) s') ∨ (r = false ∧ Two l b N s' ∧ R (.ok (.ret (.bool ne))) s')) (fun e s' => R (.error e) s') s
theorem loopEq (l b : Addr) (N : Nat) (I : Nat → Shared → Prop) (hl : TwoI prog w A R false l b N I) (fin : ∀ s, I N s → R (.ok (.ret (.bool true))) s) (k : Nat) :
    ∀ i : Nat, N - i = k → i ≤ N → ∀ s, I i s → wpAny (model prog w) A.in1 (Builtin.«list.__eq__.loop» ⟨[.ref l, .ref b, rawInt i, rawInt 2], []⟩) (GQ.FinOf prog w A R) (fun e s' => R (.error e) s') s := by
  induction k with
  | zero =>
    intro i hk hi s h
    obtain ⟨xs, ys, n, m, e1, e2, z1, z2, _⟩ := hl _ _ h
    have hi' : i = N := by omega
    have hR := fin s (hi' ▸ h)
    obtain ⟨hp, ge, dr, tk, os⟩ := s
    wp_walk using wpAny_loadPart' e1, wpAny_loadPart' e2
    have o1 : xs[((i : Nat) : Int).toNat]? = none := by simp; omega
    have o2 : ys[((i : Nat) : Int).toNat]? = none := by simp; omega
    rw [o1, o2]
    wp_walk using wpAny_loadPart' e1, wpAny_loadPart' e2
    show R (.ok (.ret (.bool (xs.size == ys.size)))) _
    rw [z1, z2]
    simpa using hR
  | succ k ih =>
    intro i hk hi s h
    obtain ⟨xs, ys, n, m, e1, e2, z1, z2, turn⟩ := hl _ _ h
    have lt1 : i < xs.size := by omega
    have lt2 : i < ys.size := by omega
    have ht := turn lt1 lt2
    obtain ⟨hp, ge, dr, tk, os⟩ := s
    wp_walk using wpAny_loadPart' e1, wpAny_loadPart' e2
    have o1 : xs[((i : Nat) : Int).toNat]? = some xs[i] := by simp [lt1]
    have o2 : ys[((i : Nat) : Int).toNat]? = some ys[i] := by simp [lt2]
    have hc : ((i : Int) + 1) = ((i + 1 : Nat) : Int) := by omega
    rw [o1, o2]
    refine wpAny_bind (wpAny_mono ht (fun r s2 h2 => ?_) fun _ _ x => x)
    rcases h2 with ⟨rfl, h2⟩ | ⟨rfl, ⟨us, vs, n', m', g1, g2, y1, y2⟩, h2⟩
    · have hrec := ih (i + 1) (by omega) (by omega) s2 h2
      obtain ⟨hp2, g2, d2, tk2, os2⟩ := s2
      wp_walk
      rw [hc]
      exact ⟨plainId_quiet plain_eq_loop _, codeAny_builtin entry_eq_loop (by
        rw [Around.under_plainId plain_eq_loop _]
        exact hrec)⟩
    · obtain ⟨hp2, ge2, d2, tk2, os2⟩ := s2
      have o3 : us[((i : Nat) : Int).toNat]? = some (us[i]'(by omega)) := by simp
      have o4 : vs[((i : Nat) : Int).toNat]? = some (vs[i]'(by omega)) := by simp
      wp_walk using wpAny_loadPart' g1, wpAny_loadPart' g2
      rw [o3, o4]
      wp_walk
      exact h2
theorem loopNe (l b : Addr) (N : Nat) (I : Nat → Shared → Prop) (hl : TwoI prog w A R true l b N I) (fin : ∀ s, I N s → R (.ok (.ret (.bool false))) s) (k : Nat) :
    ∀ i : Nat, N - i = k → i ≤ N → ∀ s, I i s → wpAny (model prog w) A.in1 (Builtin.«list.__eq__.loop» ⟨[.ref l, .ref b, rawInt i, rawInt 3], []⟩) (GQ.FinOf prog w A R) (fun e s' => R (.error e) s') s := by
  induction k with
  | zero =>
    intro i hk hi s h
    obtain ⟨xs, ys, n, m, e1, e2, z1, z2, _⟩ := hl _ _ h
    have hi' : i = N := by omega
    have hR := fin s (hi' ▸ h)
    obtain ⟨hp, ge, dr, tk, os⟩ := s
    wp_walk using wpAny_loadPart' e1, wpAny_loadPart' e2
    have o1 : xs[((i : Nat) : Int).toNat]? = none := by simp; omega
    have o2 : ys[((i : Nat) : Int).toNat]? = none := by simp; omega
    rw [o1, o2]
    wp_walk using wpAny_loadPart' e1, wpAny_loadPart' e2
    show R (.ok (.ret (.bool (xs.size != ys.size)))) _
    rw [z1, z2]
    simpa using hR
  | succ k ih =>
    intro i hk hi s h
    obtain ⟨xs, ys, n, m, e1, e2, z1, z2, turn⟩ := hl _ _ h
    have lt1 : i < xs.size := by omega
    have lt2 : i < ys.size := by omega
    have ht := turn lt1 lt2
    obtain ⟨hp, ge, dr, tk, os⟩ := s
    wp_walk using wpAny_loadPart' e1, wpAny_loadPart' e2
    have o1 : xs[((i : Nat) : Int).toNat]? = some xs[i] := by simp [lt1]
    have o2 : ys[((i : Nat) : Int).toNat]? = some ys[i] := by simp [lt2]
    have hc : ((i : Int) + 1) = ((i + 1 : Nat) : Int) := by omega
    rw [o1, o2]
    refine wpAny_bind (wpAny_mono ht (fun r s2 h2 => ?_) fun _ _ x => x)
    rcases h2 with ⟨rfl, h2⟩ | ⟨rfl, ⟨us, vs, n', m', g1, g2, y1, y2⟩, h2⟩
    · have hrec := ih (i + 1) (by omega) (by omega) s2 h2
      obtain ⟨hp2, g2, d2, tk2, os2⟩ := s2
      wp_walk
      rw [hc]
      exact ⟨plainId_quiet plain_eq_loop _, codeAny_builtin entry_eq_loop (by
        rw [Around.under_plainId plain_eq_loop _]
        exact hrec)⟩
    · obtain ⟨hp2, ge2, d2, tk2, os2⟩ := s2
      have o3 : us[((i : Nat) : Int).toNat]? = some (us[i]'(by omega)) := by simp
      have o4 : vs[((i : Nat) : Int).toNat]? = some (vs[i]'(by omega)) := by simp
      wp_walk using wpAny_loadPart' g1, wpAny_loadPart' g2
      rw [o3, o4]
      wp_walk
      exact h2
theorem listEq (l b : Addr) (N : Nat) (I : Nat → Shared → Prop) (hl : TwoI prog w A R false l b N I) (fin : ∀ s, I N s → R (.ok (.ret (.bool true))) s) {s : Shared} (h : I 0 s) :
    wpAny (model prog w) A.in1 (Builtin.«list.__eq__» ⟨[.ref l, .ref b], []⟩) (GQ.FinOf prog w A R) (fun e s' => R (.error e) s') s := by
  obtain ⟨xs, ys, n, m, e1, e2, z1, z2, _⟩ := hl _ _ h
  have hrec := loopEq (A := A) (R := R) l b N I hl fin _ 0 rfl (Nat.zero_le _) s h
  obtain ⟨hp, ge, dr, tk, os⟩ := s
  have f3 := AutoSeq1.sub_list_list
  have hne : ¬ (xs.size != ys.size) = true := by simp [z1, z2]
  wp_walk using wpAny_loadPart' e1, wpAny_loadPart' e2
  exact ⟨plainId_quiet plain_eq_loop _, codeAny_builtin entry_eq_loop (by
    rw [Around.under_plainId plain_eq_loop _]
    exact hrec)⟩
theorem listNe (l b : Addr) (N : Nat) (I : Nat → Shared → Prop) (hl : TwoI prog w A R true l b N I) (fin : ∀ s, I N s → R (.ok (.ret (.bool false))) s) {s : Shared} (h : I 0 s) :
    wpAny (model prog w) A.in1 (Builtin.«list.__ne__» ⟨[.ref l, .ref b], []⟩) (GQ.FinOf prog w A R) (fun e s' => R (.error e) s') s := by
  obtain ⟨xs, ys, n, m, e1, e2, z1, z2, _⟩ := hl _ _ h
  have hrec := loopNe (A := A) (R := R) l b N I hl fin _ 0 rfl (Nat.zero_le _) s h
  obtain ⟨hp, ge, dr, tk, os⟩ := s
  have f3 := AutoSeq1.sub_list_list
  have hne : ¬ (xs.size != ys.size) = true := by simp [z1, z2]
  wp_walk using wpAny_loadPart' e1, wpAny_loadPart' e2
  exact ⟨plainId_quiet plain_eq_loop _, codeAny_builtin entry_eq_loop (by
    rw [Around.under_plainId plain_eq_loop _]
    exact hrec)⟩
end
section
variable {prog : Program} {w : World} {A : Around} {E : Value → Shared → Prop} {s : Shared}
theorem rcEq {l b : Addr} {N : Nat} {Q : Value → Shared → Prop} (hu : A.units < cLine) (I : Nat → Shared → Prop) (hl : TwoI prog w A (wants (fun v s' => v ≠ .notImplemented ∧ Q v s') E) false l b N I)
    (fin : ∀ s, I N s → Q (.bool true) s) (h : I 0 s) : wpAny (model prog w) A (richCompare .Eq (.ref l) (.ref b)) Q E s := by
  obtain ⟨xs, ys, n, m, e1, e2, _⟩ := hl _ _ h
  refine wpAny_richCompare_same_room (op := .Eq) ⟨_, e1, rfl⟩ ⟨_, e2, rfl⟩ F.slot_list_eq (GQ.call_here F.slot_list_eq ⟨_, e1, rfl⟩ F.entry_list_eq (F.args_list_eq_2 _ _) ?_) hu
  exact listEq l b N I hl (fun s' q => ⟨(fun x => nomatch x), fin s' q⟩) h
theorem rcNe {l b : Addr} {N : Nat} {Q : Value → Shared → Prop} (hu : A.units < cLine) (I : Nat → Shared → Prop) (hl : TwoI prog w A (wants (fun v s' => v ≠ .notImplemented ∧ Q v s') E) true l b N I)
    (fin : ∀ s, I N s → Q (.bool false) s) (h : I 0 s) : wpAny (model prog w) A (richCompare .NotEq (.ref l) (.ref b)) Q E s := by
  obtain ⟨xs, ys, n, m, e1, e2, _⟩ := hl _ _ h
  refine wpAny_richCompare_same_room (op := .NotEq) ⟨_, e1, rfl⟩ ⟨_, e2, rfl⟩ F.slot_list_ne (GQ.call_here F.slot_list_ne ⟨_, e1, rfl⟩ F.entry_list_ne (F.args_list_ne_2 _ _) ?_) hu
  exact listNe l b N I hl (fun s' q => ⟨(fun x => nomatch x), fin s' q⟩) h
end
end Own
end
section
/-! == and != of lists of own things, as rules: both answers. -/
namespace Own
open PySem PySem.Spec PyProof.Rows L2
/-- what == of two values answers, by the abstract heap -/
abbrev EqvB := V → V → Hp → Bool → Prop
def MonB (D : EqvB) : Prop := ∀ x y H H' r, Ext H H' → D x y H r → D x y H' r
def EqB (X : Cx) (n : Nat) (D : EqvB) : Prop :=
  ∀ (A : Around) (pins : List (Addr × Obj)) (s : Shared) (σ : L2.St) (H : Hp) (x y : V) (u v : Value) (r : Bool), Sub X n A → Inv X pins σ H s → RelV x u → RelV y v → D x y H r →
    wpAny (model X.prog X.w) A (eqBool u v) (fun c s' => c = r ∧ LoopI X pins σ H s') X.xe s
def rLB (D : EqvB) (f : Bool → Bool) : R2 := fun x y H Q => ∃ (a b : Addr) (xs ys : List V) (rs : List Bool), x = .ref a ∧ y = .ref b ∧ H a = some (.lst xs) ∧ H b = some (.lst ys) ∧ xs.length = ys.length ∧ rs.length = xs.length ∧
  (∀ (i : Nat) (x y : V), xs[i]? = some x → ys[i]? = some y → ∃ r, rs[i]? = some r ∧ D x y H r) ∧ ∀ H', Ext H H' → Q (.bl (f (rs.all id))) H'
theorem all_true {rs : List Bool} (h : ∀ j, j < rs.length → rs[j]? = some true) : rs.all id = true := by
  refine List.all_eq_true.mpr fun x hx => ?_
  obtain ⟨j, hj⟩ := List.getElem?_of_mem hx
  have hl := (List.getElem?_eq_some_iff.mp hj).1
  rw [h j hl] at hj
  cases hj
  rfl
theorem all_false {rs : List Bool} {j : Nat} (h : rs[j]? = some false) : rs.all id = false := by
  refine List.all_eq_false.mpr ⟨false, List.mem_of_getElem? h, by simp⟩
section
variable {X : Cx} {n : Nat} {D : EqvB}
theorem turnB (hD : MonB D) (h : EqB X n D) {A : Around} (sb : Sub X (n + 1) A) {pins : List (Addr × Obj)} {σ : L2.St} {H : Hp} {xs ys : List V} {rs : List Bool} {its its2 : List Value} (hp : ∀ (i : Nat) (x y : V), xs[i]? = some x → ys[i]? = some y → ∃ r, rs[i]? = some r ∧ D x y H r) (r : Vals xs its) (r2 : Vals ys its2)
    (i : Nat) (h1 : i < its.toArray.size) (h2 : i < its2.toArray.size) (s' : Shared) (l : LoopI X pins σ H s') :
    wpAny (model X.prog X.w) A.in1 (eqBool its.toArray[i] its2.toArray[i]) (fun c s2 => rs[i]? = some c ∧ LoopI X pins σ H s2) X.xe s' := by
  obtain ⟨H1, I1, e1⟩ := l
  have l1 : i < its.length := by simpa using h1
  have l2 : i < its2.length := by simpa using h2
  have k1 : i < xs.length := by rw [r.length]; exact l1
  have k2 : i < ys.length := by rw [r2.length]; exact l2
  obtain ⟨u, hu, ru⟩ := r.get (List.getElem?_eq_getElem k1)
  obtain ⟨v, hv, rv⟩ := r2.get (List.getElem?_eq_getElem k2)
  have eu : its.toArray[i] = u := by
    rw [List.getElem?_eq_getElem l1] at hu
    simpa using Option.some.inj hu
  have ev : its2.toArray[i] = v := by
    rw [List.getElem?_eq_getElem l2] at hv
    simpa using Option.some.inj hv
  rw [eu, ev]
  obtain ⟨c, hc, d⟩ := hp i _ _ (List.getElem?_eq_getElem k1) (List.getElem?_eq_getElem k2)
  refine wpAny_mono (h A.in1 pins s' σ H1 _ _ u v c sb.in1 I1 ru rv (hD _ _ _ _ _ e1 d)) (fun c' s2 q => ?_) fun _ _ x => x
  obtain ⟨rfl, H2, I2, e2⟩ := q
  exact ⟨hc, H2, I2, e1.trans e2⟩
theorem two_of {pins : List (Addr × Obj)} {σ : L2.St} {H : Hp} {a b : Addr} {xs ys : List V} {s : Shared} (ha : H a = some (.lst xs)) (hb : H b = some (.lst ys)) (hl : xs.length = ys.length) (l : LoopI X pins σ H s) : Two a b xs.length s := by
  obtain ⟨H1, I1, e1⟩ := l
  obtain ⟨z, its, k, r, e⟩ := I1.hok a _ (e1 _ _ ha)
  obtain ⟨z2, its2, k2, r2, e2⟩ := I1.hok b _ (e1 _ _ hb)
  exact ⟨its.toArray, its2.toArray, k, k2, e, e2, by rw [List.size_toArray, ← r.length], by rw [List.size_toArray, ← r2.length, hl]⟩
theorem op_eqLB (hD : MonB D) (h : EqB X n D) (hr : Room (n + 1) X.A) : OpR X (compareOp .Eq) (rLB D id) := fun pins s σ H x y v u Q I rx ry hq => by
  obtain ⟨a, b, xs, ys, rs, rfl, rfl, ha, hb, hl, hz, hp, q⟩ := hq
  cases rx
  cases ry
  show wpAny (model X.prog X.w) X.A (richCompare .Eq (.ref a) (.ref b)) (EP X pins σ Q) X.xe s
  have sb : Sub X (n + 1) X.A := ⟨hr, rfl⟩
  refine rcEq (N := xs.length) hr.units0 (fun i s' => (∀ j, j < i → rs[j]? = some true) ∧ LoopI X pins σ H s') (fun i s' w' => ?_) (fun s' w' => ?_) ⟨fun j hj => absurd hj (Nat.not_lt_zero _), H, I, Ext.rfl'⟩
  · obtain ⟨hall, H1, I1, e1⟩ := id w'
    obtain ⟨z, its, k, r, e⟩ := I1.hok a _ (e1 _ _ ha)
    obtain ⟨z2, its2, k2, r2, e2⟩ := I1.hok b _ (e1 _ _ hb)
    refine ⟨its.toArray, its2.toArray, k, k2, e, e2, by rw [List.size_toArray, ← r.length], by rw [List.size_toArray, ← r2.length, hl], fun h1 h2 => ?_⟩
    refine wpAny_mono (turnB hD h sb hp r r2 i h1 h2 s' w'.2) (fun c s2 q2 => ?_) fun _ _ x => x
    obtain ⟨hc, lp⟩ := q2
    cases c with
    | true => exact .inl ⟨rfl, fun j hj => (Nat.lt_succ_iff_lt_or_eq.mp hj).elim (hall j) fun ej => by rw [ej]; exact hc, lp⟩
    | false =>
      obtain ⟨H2, I2, x2⟩ := id lp
      have z := q H2 x2
      rw [all_false hc] at z
      have ep : EP X pins σ Q (.bool false) s2 := ⟨.bl false, H2, I2, rfl, z⟩
      exact .inr ⟨rfl, two_of ha hb hl lp, ⟨(fun x => nomatch x), ep⟩⟩
  · obtain ⟨hall, H1, I1, e1⟩ := w'
    have z := q H1 e1
    rw [all_true fun j hj => hall j (by omega)] at z
    exact ⟨.bl true, H1, I1, rfl, z⟩
theorem op_neLB (hD : MonB D) (h : EqB X n D) (hr : Room (n + 1) X.A) : OpR X (compareOp .NotEq) (rLB D not) := fun pins s σ H x y v u Q I rx ry hq => by
  obtain ⟨a, b, xs, ys, rs, rfl, rfl, ha, hb, hl, hz, hp, q⟩ := hq
  cases rx
  cases ry
  show wpAny (model X.prog X.w) X.A (richCompare .NotEq (.ref a) (.ref b)) (EP X pins σ Q) X.xe s
  have sb : Sub X (n + 1) X.A := ⟨hr, rfl⟩
  refine rcNe (N := xs.length) hr.units0 (fun i s' => (∀ j, j < i → rs[j]? = some true) ∧ LoopI X pins σ H s') (fun i s' w' => ?_) (fun s' w' => ?_) ⟨fun j hj => absurd hj (Nat.not_lt_zero _), H, I, Ext.rfl'⟩
  · obtain ⟨hall, H1, I1, e1⟩ := id w'
    obtain ⟨z, its, k, r, e⟩ := I1.hok a _ (e1 _ _ ha)
    obtain ⟨z2, its2, k2, r2, e2⟩ := I1.hok b _ (e1 _ _ hb)
    refine ⟨its.toArray, its2.toArray, k, k2, e, e2, by rw [List.size_toArray, ← r.length], by rw [List.size_toArray, ← r2.length, hl], fun h1 h2 => ?_⟩
    refine wpAny_mono (turnB hD h sb hp r r2 i h1 h2 s' w'.2) (fun c s2 q2 => ?_) fun _ _ x => x
    obtain ⟨hc, lp⟩ := q2
    cases c with
    | true => exact .inl ⟨rfl, fun j hj => (Nat.lt_succ_iff_lt_or_eq.mp hj).elim (hall j) fun ej => by rw [ej]; exact hc, lp⟩
    | false =>
      obtain ⟨H2, I2, x2⟩ := id lp
      have z := q H2 x2
      rw [all_false hc] at z
      have ep : EP X pins σ Q (.bool true) s2 := ⟨.bl true, H2, I2, rfl, z⟩
      exact .inr ⟨rfl, two_of ha hb hl lp, ⟨(fun x => nomatch x), ep⟩⟩
  · obtain ⟨hall, H1, I1, e1⟩ := w'
    have z := q H1 e1
    rw [all_true fun j hj => hall j (by omega)] at z
    exact ⟨.bl false, H1, I1, rfl, z⟩
/-- two instances whose own __eq__ is at ge and answers as Rb says (a thing is equal to itself) -/
def DInsB (K : PySem.W.Frag) (ge : Addr) (Rb : Addr → Addr → Hp → Bool → Prop) : EqvB := fun x y H r => ∃ a b C dx fs D' dy hs gs, x = .ref a ∧ y = .ref b ∧ H a = some (.ins C dx fs) ∧ H b = some (.ins D' dy hs) ∧ OwnC K C gs ge ∧ OwnC K D' gs ge ∧ PySem.W.notFirst K C (.ref D') = true ∧ Rb a b H r ∧ (a = b → r = true)
theorem mon_insB {K : PySem.W.Frag} {ge : Addr} {Rb : Addr → Addr → Hp → Bool → Prop} (hR : ∀ a b H H' r, Ext H H' → Rb a b H r → Rb a b H' r) : MonB (DInsB K ge Rb) := fun x y H H' r e d => by
  obtain ⟨a, b, C, dx, fs, D', dy, hs, gs, h1, h2, h3, h4, h5, h6, h7, h8, h9⟩ := d
  exact ⟨a, b, C, dx, fs, D', dy, hs, gs, h1, h2, e _ _ h3, e _ _ h4, h5, h6, h7, hR _ _ _ _ _ e h8, h9⟩
def spEqB (Rb : Addr → Addr → Hp → Bool → Prop) : Sp := fun vs H Q _ => ∃ a b r, vs = [.ref a, .ref b] ∧ Rb a b H r ∧ ∀ H', Ext H H' → Q (.bl r) H'
theorem eqB_ins {CX : CXT} {ge : Addr} {sp : Sp} {Rb : Addr → Addr → Hp → Bool → Prop} {E : XK} (F : FnR X.prog X.w X.K X.mg X.base CX n ge sp) (hsp : ∀ vs H Q, spEqB Rb vs H Q E → sp vs H Q E) (hx : Passes CX X E) : EqB X n (DInsB X.K ge Rb) := by
  intro A pins s σ H x y u v r sb I rx ry d
  obtain ⟨a, b, C, dx, fs, D', dy, hs, gs, rfl, rfl, ha, hb, cO, dO, hn, hR, hsame⟩ := d
  cases rx
  cases ry
  by_cases hab : a = b
  · subst hab
    rw [hsame rfl]
    exact SeqAt.EqAt.same (A := A) (s := s) (.ref a) X.prog X.w X.xe _ ⟨rfl, H, I, Ext.rfl'⟩
  · refine GQ.eqBool_refG hab ?_
    obtain ⟨_, O, _⟩ := ins_get I.hok ha
    obtain ⟨_, O', _⟩ := ins_get I.hok hb
    obtain ⟨od, J, _⟩ := O.look
    obtain ⟨od', J', _⟩ := O'.look
    obtain ⟨m, hF⟩ := I.fr
    have e0 : Env0 X.prog X.w X.K X.mg X.base A X.stack s H := by
      have e := I.env0
      exact ⟨by rw [sb.fr]; exact e.frames, e.mod, e.bs, e.bsz, e.funs, e.frf, e.hok, e.bare⟩
    refine PySem.W.cmp_K (op := .Eq) (tb := .ref D') sb.room.units0 hF I.ok.mod.kin J J'.type hn cO.eq cO.eqf ?_
    refine wpAny_mono (wpAny_call (run_at (us := [.ref a, .ref b]) (ws := [.ref a, .ref b]) (Q := fun z H' => z = .bl r ∧ Ext H H') F sb.room e0 hx I (.cons rfl (.cons rfl .nil)) (hsp _ _ _ ⟨a, b, r, rfl, hR, fun H' e => ⟨rfl, e⟩⟩))) (fun w s' z => ?_) fun _ _ x => x
    obtain ⟨z', H', I', rz, ez, ex⟩ := z
    subst ez
    cases (show w = Value.bool r from rz)
    exact ⟨r, rfl, rfl, H', I', ex⟩
end
end Own
end
section
/-! zip of a tuple and a list. -/
namespace Own
open PySem PySem.Spec PyProof.Rows L2
theorem sep2_apart {z TI TO i1 i2 a b : Addr} (D : ZipApart z TI TO i1 i2 a b) : ZipSep2 z TI TO i1 i2 [i1, a] [i2, b] where
  TIz := D.TIz
  TOz := D.TOz
  TITO := D.TITO
  TIi1 := D.TIi1
  mem1 := by simp
  zf1 := by simp; exact ⟨D.i1z.symm, D.l1z.symm⟩
  Tf1 := by simp; exact ⟨D.TOi1, D.l1TO.symm⟩
  TIi2 := D.TIi2
  mem2 := by simp
  zf2 := by simp; exact ⟨D.i2z.symm, D.l2z.symm⟩
  Tf2 := by simp; exact ⟨D.TOi2, D.l2TO.symm⟩
  sep1_2 := by simp; exact ⟨D.i12, D.l2i1.symm⟩
  sep2_1 := by simp; exact ⟨D.i12.symm, D.l1i2.symm⟩
/-- the tuple at a and the list at b as they stand at each turn, the items in new pairs -/
def ItzM (K : PySem.W.Frag) (a b : Addr) : It :=
  ⟨fun i H => ∃ (xs ys : List V) (x y : V), SqT K H a xs ∧ SqL K H b ys ∧ xs[i]? = some x ∧ ys[i]? = some y,
    fun i H v H' => ∃ T x y, v = .ref T ∧ H T = none ∧ H' = upd H T (.tup [x, y]) ∧ (∀ xs, SqT K H a xs → xs[i]? = some x) ∧ ∀ ys, SqL K H b ys → ys[i]? = some y,
    fun i H => ∃ xs ys : List V, SqT K H a xs ∧ SqL K H b ys ∧ i ≤ xs.length ∧ i ≤ ys.length ∧ (i = xs.length ∨ i = ys.length)⟩
theorem turn_zipM {P : Program} {w : World} {K : PySem.W.Frag} {elts : List Expr} {kk : Nat} {tpos : Pos} {a b z TI TO i1 i2 : Addr} (D : ZipApart z TI TO i1 i2 a b) :
    Turn P w K (.Tuple elts kk tpos) (ItzM K a b) [z, TI, TO, i1, i2] z (fun i h => IsZip h z TI TO .none ∧ IsTupOf2 h TI (.ref i1) (.ref i2) ∧ (∃ x y, IsTupOf2 h TO x y) ∧ h.IsTupleIter i1 a i ∧ h.IsListIter i2 b i) where
  mem := by simp
  obj := fun i h st c hc => by
    obtain ⟨hz, hTI, ⟨x, y, hTO⟩, ⟨o1, e1, _, d1⟩, ⟨o2, e2, _, d2⟩⟩ := st
    have e' : c = z ∨ c = TI ∨ c = TO ∨ c = i1 ∨ c = i2 := by simpa using hc
    rcases e' with q | q | q | q | q
    · rw [q]; exact ⟨_, hz, fun v q => nomatch q⟩
    · rw [q]; exact ⟨_, hTI, fun v q => nomatch q⟩
    · rw [q]; exact ⟨_, hTO, fun v q => nomatch q⟩
    · rw [q]; exact ⟨o1, e1, fun v q => by rw [d1] at q; cases q⟩
    · rw [q]; exact ⟨o2, e2, fun v q => by rw [d2] at q; cases q⟩
  keep := fun i h h' st k => by
    obtain ⟨hz, hTI, ⟨x, y, hTO⟩, h1, h2⟩ := st
    obtain ⟨o, ho, hr⟩ := h1
    exact ⟨k z (by simp) _ hz, k TI (by simp) _ hTI, ⟨x, y, k TO (by simp) _ hTO⟩, ⟨o, k i1 (by simp) o ho, hr⟩, h2.at fun o q => k i2 (by simp) o q⟩
  item := by
    intro X hP hw hK hc i pins s σ H E I hf st hg
    subst hP hw hK
    obtain ⟨hz, hTI, ⟨x0, y0, hTO⟩, h1, h2⟩ := st
    obtain ⟨xs, ys, x, y, hqx, hqy, hx, hy⟩ := hg
    obtain ⟨its, rv, p, _⟩ := I.tuple hqx
    obtain ⟨its2, rv2, p2, _⟩ := I.list hqy
    obtain ⟨u, hu, ru⟩ := rv.get hx
    obtain ⟨u2, hu2, ru2⟩ := rv2.get hy
    have hzl : z < s.heap.objs.size := Heap.lt_size hz
    have D1 := Draws.tuple (prog := X.prog) (w := X.w) (A := X.A.in1) (show X.A.in1.handled = none from I.ok.hd hc) i1 a D.l1i1 its.toArray
    have D2 := Draws.list (prog := X.prog) (w := X.w) (A := X.A.in1) (show X.A.in1.handled = none from I.ok.hd hc) i2 b D.l2i2 its2.toArray
    have lt1 : i < its.toArray.size := by
      have q := (List.getElem?_eq_some_iff.mp hu).1
      simpa using q
    have lt2 : i < its2.toArray.size := by
      have q := (List.getElem?_eq_some_iff.mp hu2).1
      simpa using q
    refine wpAny_pyNext_zipD2_item (sep2_apart D) D1 D2 hz hTI hTO ⟨h1, p⟩ ⟨h2, p2.isList⟩ lt1 lt2 fun v1 v2 h' tk y1 y2 z' TO' st1 st2 hT hsz hk => ?_
    have ey1 : v1 = u := by
      have q : its.toArray[i]? = some u := by simpa using hu
      exact Option.some.inj (y1.symm.trans q)
    have ey2 : v2 = u2 := by
      have q : its2.toArray[i]? = some u2 := by simpa using hu2
      exact Option.some.inj (y2.symm.trans q)
    subst ey1 ey2
    refine ⟨_, rfl, wpAny_letOwnedTupleGo_zip (s := { s with heap := h', toks := tk }) z' fun h'' z'' sb => ?_⟩
    have hT2 : h''.get? s.heap.objs.size = some { cls := .type "tuple", data := .seq #[v1, v2] } := (sb.2 _ (Nat.ne_of_gt hzl)).trans hT
    have new : ObjOk X.prog X.w (upd H s.heap.objs.size (.tup [x, y])) h'' s.heap.objs.size (.tup [x, y]) :=
      ⟨by show 2 ≤ sizeLine; decide, [v1, v2], .cons ru (.cons ru2 .nil), ⟨_, hT2, rfl, _, rfl⟩⟩
    have I1 : Inv X pins σ (upd H s.heap.objs.size (.tup [x, y])) { s with heap := h'', toks := tk } :=
      I.turnedNew (t' := tk) (ch := [z, TI, TO, i1, i2]) (fun c o hb q => (sb.2 c (fun q' => hb (by simp [q']))).trans (hk c o (fun q' => hb (by simp [q'])) (fun q' => hb (by simp [q'])) (fun q' => hb (by simp [q'])) (fun q' => hb (by simp [q'])) q)) hf (Nat.le_refl _) new
    refine ⟨.ref s.heap.objs.size, _, I1, rfl, ⟨_, x, y, rfl, I.hok.fresh (Nat.le_refl _), rfl, fun l hl => by rw [I.tuple_inj hl hqx]; exact hx, fun l hl => by rw [I.list_inj hl hqy]; exact hy⟩, ⟨z'', ?_, ⟨v1, v2, ?_⟩, ?_, ?_⟩, fun c hcm => ?_⟩
    · exact (sb.2 _ D.TIz).trans (hk _ _ D.TIz D.TITO D.TIi1 D.TIi2 hTI)
    · exact (sb.2 _ D.TOz).trans TO'
    · obtain ⟨o, ho, hr⟩ := st1.1
      exact ⟨o, (sb.2 _ D.i1z).trans ho, hr⟩
    · exact st2.1.at fun o q => (sb.2 _ D.i2z).trans q
    · have hlt : c < s.heap.objs.size := by
        have e' : c = z ∨ c = TI ∨ c = TO ∨ c = i1 ∨ c = i2 := by simpa using hcm
        rcases e' with q | q | q | q | q
        · rw [q]; exact hzl
        · rw [q]; exact Heap.lt_size hTI
        · rw [q]; exact Heap.lt_size hTO
        · rw [q]; obtain ⟨_, e1, _⟩ := h1; exact Heap.lt_size e1
        · rw [q]; obtain ⟨_, e2, _⟩ := h2; exact Heap.lt_size e2
      rw [upd_ne (Nat.ne_of_lt hlt)]
      exact (hf c hcm).1
  done := by
    intro X hP hw hK hc i pins s σ H E I hf st hg
    subst hP hw hK
    obtain ⟨hz, hTI, ⟨x0, y0, hTO⟩, h1, h2⟩ := st
    obtain ⟨xs, ys, hqx, hqy, le1, le2, hend⟩ := hg
    obtain ⟨its, rv, p, _⟩ := I.tuple hqx
    obtain ⟨its2, rv2, p2, _⟩ := I.list hqy
    have l1 := rv.length
    have l2 := rv2.length
    have D1 := Draws.tuple (prog := X.prog) (w := X.w) (A := X.A.in1) (show X.A.in1.handled = none from I.ok.hd hc) i1 a D.l1i1 its.toArray
    have D2 := Draws.list (prog := X.prog) (w := X.w) (A := X.A.in1) (show X.A.in1.handled = none from I.ok.hd hc) i2 b D.l2i2 its2.toArray
    exact wpAny_pyNext_zipD2_end (sep2_apart D) D1 D2 hz hTI hTO ⟨h1, p⟩ ⟨h2, p2.isList⟩ (by simp; omega) (by simp; omega) (by simp; omega) fun h' tk hk => ⟨rfl, I.turnedL (t' := tk) (ch := [z, TI, TO, i1, i2]) (fun c o hb q =>
      hk c o (fun q' => hb (by simp [q'])) (fun q' => hb (by simp [q'])) (fun q' => hb (by simp [q'])) (fun q' => hb (by simp [q'])) q) hf⟩
  self := fun A i s Q E st h => wpAny_pyIter_zip st.1 h
def iZipM (K : PySem.W.Frag) (ta : TA) : TI := fun σ H R => ta σ H fun vs H1 => ∃ a b xs ys, vs = [.ref a, .ref b] ∧ SqT K H1 a xs ∧ SqL K H1 b ys ∧ R (ItzM K a b) H1
theorem pi_zipM {X : Cx} {e e2 : Expr} {ta : TA} {p pos tpos : Pos} {elts : List Expr} {kk : Nat} (hg : Gl X "zip") (hm : X.mg "zip" = none) (ha : PA X [e, e2] ta)
    (hs : starEach [e, e2] X.env = (false, eval e X.env) :: starEach [e2] X.env := by rfl) (hpl : (backTo pos (starEach [e2] X.env)).any (·.1) = false := by rfl) :
    PI X (.Tuple elts kk tpos) (.Call (.Name "zip" p) [e, e2] [] pos) (iZipM X.K ta) := by
  refine ⟨fun pins s σ H R I h => ?_⟩
  refine Call_ (ld_blt I hg hm PyProof.Rows.boot_zip (PyProof.Rows.callWith_type1 (thn (ha.run pos pins s σ H _ I h) fun us s1 ⟨vs, H1, I1, r1, q1⟩ => ?_) hs hpl))
  obtain ⟨a, b, xs, ys, ex, hqx, hqy, q⟩ := q1
  subst ex
  cases r1 with
  | cons r rr =>
    cases rr with
    | cons r' rr =>
      cases rr
      cases r
      cases r'
      obtain ⟨its, rv, p1, _⟩ := I1.tuple hqx
      obtain ⟨its2, rv2, p2, _⟩ := I1.list hqy
      have la : a < s1.heap.objs.size := by obtain ⟨o, ho, _⟩ := id p1; exact Heap.lt_size ho
      have lb : b < s1.heap.objs.size := p2.lt
      refine zip_begins2 (begins_tuple a its.toArray) (begins_list b its2.toArray) p1 p2.isList fun h' hz hTI hTO h1 h2 hsz hk => wpAny_pyIter_zip hz ?_
      have I2 : Inv X pins σ H1 { s1 with heap := h' } := I1.kept (t' := s1.toks) hk
      refine ⟨s1.heap.objs.size + 4, [s1.heap.objs.size + 4, s1.heap.objs.size + 2, s1.heap.objs.size + 3, s1.heap.objs.size, s1.heap.objs.size + 1], _, _, H1, rfl, I2, turn_zipM (PySem.W.ktu_apart s1.heap.objs.size a b la lb), ⟨hz, hTI, ⟨_, _, hTO⟩, ⟨_, h1, rfl, rfl⟩, ⟨_, h2, rfl, rfl⟩⟩, fun c hcm => ?_, q⟩
      have e' : c = s1.heap.objs.size + 4 ∨ c = s1.heap.objs.size + 2 ∨ c = s1.heap.objs.size + 3 ∨ c = s1.heap.objs.size ∨ c = s1.heap.objs.size + 1 := by simpa using hcm
      have hle : s1.heap.objs.size ≤ c := by
        rcases e' with z | z | z | z | z
        · rw [z]; exact Nat.le_add_right _ _
        · rw [z]; exact Nat.le_add_right _ _
        · rw [z]; exact Nat.le_add_right _ _
        · rw [z]; exact Nat.le_refl _
        · rw [z]; exact Nat.le_add_right _ _
      exact I1.fpOk hle (I1.hok.fresh hle)
theorem lc_zipM {K : PySem.W.Frag} {a b : Addr} {xs ys : List V} {g : TG} {tt : TT} {te : TE} {vs : List Nat} {σ : L2.St} {H1 : Hp} {D : Addr} {Qd : Hp → Prop} (he : xs.length = ys.length) (Pv : Nat → Hp → Prop) (h0 : Pv 0 (upd H1 D (.lst []))) (hl : ∀ i H, i ≤ xs.length → Pv i H → SqT K H a xs ∧ SqL K H b ys)
    (hs : ∀ i x y T H, xs[i]? = some x → ys[i]? = some y → Pv i H → H T = none → g (.ref T) (wipe σ vs) (upd H T (.tup [x, y])) fun σ2 H2 => wipe σ2 vs = wipe σ vs ∧ tt σ2 H2 fun b H3 =>
      if b = true then te σ2 H3 fun y H4 => ∃ acc, H4 D = some (.lst acc) ∧ acc.length < sizeLine ∧ Pv (i + 1) (upd H4 D (.lst (acc ++ [y]))) else Pv (i + 1) H3) (hd : ∀ H, Pv xs.length H → Qd H) :
    ∃ W : Nat → Nat → Hp → Prop, (∃ m, W 0 m (upd H1 D (.lst []))) ∧ ∀ i m H, W i m H →
      ((ItzM K a b).stop i H ∧ Qd H) ∨ ((ItzM K a b).go i H ∧ ∃ Nx : Hp → Prop, (∀ H', Nx H' → ∃ m', m' < m ∧ W (i + 1) m' H') ∧ ∀ x H', (ItzM K a b).yld i H x H' → g x (wipe σ vs) H' fun σ2 H2 => wipe σ2 vs = wipe σ vs ∧ tt σ2 H2 fun b H3 =>
        if b = true then te σ2 H3 fun y H4 => ∃ acc, H4 D = some (.lst acc) ∧ acc.length < sizeLine ∧ Nx (upd H4 D (.lst (acc ++ [y]))) else Nx H3) := by
  refine ⟨fun i m H => m = xs.length - i ∧ i ≤ xs.length ∧ Pv i H, ⟨xs.length, by simp, Nat.zero_le _, h0⟩, ?_⟩
  rintro i m H ⟨rfl, hi, p⟩
  obtain ⟨q1, q2⟩ := hl i H hi p
  by_cases hlt : i < xs.length
  · have hlt2 : i < ys.length := by omega
    refine .inr ⟨⟨xs, ys, xs[i], ys[i], q1, q2, List.getElem?_eq_getElem hlt, List.getElem?_eq_getElem hlt2⟩, Pv (i + 1), fun H' p' => ⟨xs.length - (i + 1), by omega, rfl, hlt, p'⟩, fun v H' y => ?_⟩
    obtain ⟨T, x', y', rfl, hT, rfl, f1, f2⟩ := y
    exact hs i x' y' T H (f1 xs q1) (f2 ys q2) p hT
  · have e : i = xs.length := by omega
    subst e
    exact .inl ⟨⟨xs, ys, q1, q2, Nat.le_refl _, by omega, .inl rfl⟩, hd H p⟩
end Own
end
section
/-! a if t else b, as a test. -/
namespace Own
open PySem PySem.Spec PyProof.Rows L2
def tIfT (t ta tb : TT) : TT := fun σ H Q => t σ H fun c H1 => if c = true then ta σ H1 Q else tb σ H1 Q
theorem pt_ifExp {X : Cx} {c a b : Expr} {pos : Pos} {t ta tb : TT} (hc : PT X c t) (ha : PT X a ta) (hb : PT X b tb) : PT X (.IfExp c a b pos) (tIfT t ta tb) := by
  refine ⟨fun pins s σ H Q I h => ?_⟩
  refine isTrue_IfExp (thn (hc.run pins s σ H _ I h) fun d s1 q => ?_)
  obtain ⟨H1, I1, q1⟩ := q
  cases d with
  | true => exact ha.run pins s1 σ H1 Q I1 q1
  | false => exact hb.run pins s1 σ H1 Q I1 q1
end Own
end
section
/-! x in (a text, a tuple, None), x of an own class whose __eq__ says no: the reflected comparison. -/
namespace Own
open PySem PySem.Spec PyProof.Rows L2 PySem.SeqAt
open AutoSeq1 (wpAny_loadPart')
open MeetsSeq MeetsSeq2 MeetsSeq3 SeqRoads2
section
variable {prog : Program} {w : World} {A : Around} {E : Value → Shared → Prop} {s : Shared} {K : PySem.W.Frag} {x C f : Addr} {od : Option Obj}
theorem str_dec (b : Str) (u : Tok) (x : Addr) (cl : Value) (dx : Option Addr) :
    Meets (Builtin.«str.__eq__» ⟨[.str b u, .ref x], []⟩) (fun _ R s => s.heap.get? x = some { cls := cl, dict := dx, data := .plain } ∧ R (.ok (.ret .notImplemented)) s) :=
  .of_wp fun prog w A R s h => by obtain ⟨hp, g, d, tk, os⟩ := s; obtain ⟨hl, h⟩ := h; wp_walk using wpAny_load hl; exact ⟨_, rfl, h⟩
theorem tup_dec (l x : Addr) (T : Shared → Prop) (hT : ∀ s, T s → ∀ {Aa : Around} {Ee : Value → Shared → Prop} {Qq : Bool → Shared → Prop}, Qq false s → wpAny (model prog w) Aa (isInstance (.ref x) (.type "tuple")) Qq Ee s) :
    MeetsIn prog w (Builtin.«tuple.__eq__» ⟨[.ref l, .ref x], []⟩) (fun _ R s => T s ∧ R (.ok (.ret .notImplemented)) s) := by
  intro A R s h
  obtain ⟨ht, h⟩ := h
  have it : ∀ {Aa : Around} {Ee : Value → Shared → Prop} {Qq : Bool → Shared → Prop}, Qq false s → wpAny (model prog w) Aa (isInstance (.ref x) (.type "tuple")) Qq Ee s := fun {_ _ _} q => hT s ht q
  obtain ⟨hp, g, d, tk, os⟩ := s
  wp_walk using it
  exact h
/-- == whose left side declines: the right side's own __eq__ -/
theorem rc_refl {a : Value} {T id : String} {Q : Value → Shared → Prop} (hu : A.units < cLine) (X : K.In s.heap) (I : PySem.W.InstAt s.heap x (PySem.W.instObj C dx) C od) (ht : s.TypeIs a T) (hn : PySem.W.mroIn K C (.type T) = some false) (sl : Slot T "__eq__" id)
    (hd : ∀ {Q : Value → Shared → Prop}, Q .notImplemented s → wpAny (model prog w) A (call (.builtin id) [a, .ref x]) Q E s) (he : PySem.W.findIn K (.ref C) "__eq__" = some (some (.ref f))) (hf : PySem.W.isFn K (.ref f) = true)
    (h : wpAny (model prog w) A (call (.ref f) [.ref x, a]) (PySem.W.CmpBack Q) E s) : wpAny (model prog w) A (richCompare .Eq a (.ref x)) Q E s := by
  unfold richCompare
  simp only [ht.oneThing_none]
  refine wpAny_holding (wpAny_bind (wpAny_cRoomFor hu ?_))
  refine wpAny_bind (wpAny_typeOf ht (wpAny_bind (I.type.here ?_)))
  have hne : (Value.type T != Value.ref C) = true := rfl
  simp only [hne, if_true]
  refine wpAny_bind ((PySem.W.looks_mroIn X hn).here ?_)
  simp only [Bool.false_eq_true, if_false, Bool.not_false, if_true]
  refine wpAny_bind (m := tryCompare a _ _) (wpAny_tryCompare_declines ht sl (hd ⟨rfl, ?_⟩))
  have one : wpAny (model prog w) A (tryCompare (.ref x) (cmpInfo .Eq).2.2 a) (fun r s' => ∃ v, r = some v ∧ Q v s') E s := by
    unfold tryCompare
    refine wpAny_bind (PySem.W.ifBound_K X I he hf (wpAny_mono h (fun v s' hv => ?_) fun _ _ e => e))
    cases v <;> first | exact hv.elim | exact wpAny_pure ⟨_, rfl, hv⟩
  refine wpAny_bind (m := tryCompare (.ref x) _ a) (wpAny_mono one (fun r s' z => ?_) fun _ _ e => e)
  obtain ⟨v, rfl, hq⟩ := z
  exact wpAny_pure hq
theorem eqb_of_rc {a : Value} {Q : Bool → Shared → Prop} (hne : (a == Value.ref x) = false) (h : wpAny (model prog w) A (richCompare .Eq a (.ref x)) (fun v s' => ∃ r, v = .bool r ∧ Q r s') E s) : wpAny (model prog w) A (eqBool a (.ref x)) Q E s := by
  unfold eqBool
  refine wpAny_holding ?_
  simp only [hne, Bool.false_eq_true, if_false]
  refine wpAny_bind (wpAny_mono h (fun v s' hv => ?_) fun _ _ x => x)
  obtain ⟨r, rfl, q⟩ := hv
  exact wpAny_truthy_bool q
/-- in a tuple of which nothing is equal -/
theorem in_none {l : Addr} {x : Value} {items : Array Value} {Q : Value → Shared → Prop} (J : Shared → Prop) (h0 : J s) (hl0 : s.heap.IsTuple l items)
    (turn : ∀ y, y ∈ items → ∀ s', J s' → wpAny (model prog w) A.in1 (eqBool y x) (fun r s2 => r = false ∧ J s2) E s') (fin : ∀ s', J s' → Q (.bool false) s') : wpAny (model prog w) A (compareOp .In x (.ref l)) Q E s := by
  show wpAny _ A (do return .bool (← contains (.ref l) x)) Q E s
  have hT : s.TypeIs (.ref l) "tuple" := by obtain ⟨o, ho, hc, _⟩ := id hl0; exact ⟨o, ho, hc⟩
  have g : MeetsIn prog w (Builtin.«tuple.__contains__» ⟨[.ref l, x], []⟩) (fun A' R s => A' = A ∧ s.heap.IsTuple l items ∧ J s ∧ (∀ e s', E e s' → R (.error e) s') ∧ ∀ s', J s' → R (.ok (.ret (.bool false))) s') := by
    intro A' R s h
    obtain ⟨rfl, ht, hj, hE, hR⟩ := h
    obtain ⟨⟨cls, dd, data, sl⟩, ho, hc, n, hd⟩ := ht
    simp only at hc hd
    subst hc hd
    obtain ⟨hp, ge, d, tk, os⟩ := s
    have ho' : hp.get? l = some { cls := .type "tuple", dict := dd, data := .seq items n, slots := sl } := ho
    wp_walk using wpAny_loadPart' ho', wpAny_forIn_array _ (fun rest b s' => b.1 = none ∧ J s' ∧ ∀ y, y ∈ rest → y ∈ items) _
    case turn =>
      rintro y rest b s' ⟨hb, hj', hmem⟩
      refine wpAny_bind (wpAny_mono (turn y (hmem y (List.mem_cons_self ..)) s' hj') (fun r s2 q => ?_) fun e s2 q => hE e s2 q)
      obtain ⟨rfl, hj2⟩ := q
      obtain ⟨hp2, ge2, d2, tk2, os2⟩ := s2
      wp_walk
      exact ⟨rfl, hj2, fun z hz => hmem z (List.mem_cons_of_mem _ hz)⟩
    case fin =>
      rintro ⟨b1, b2⟩ s' ⟨hb, hj', _⟩
      simp only at hb
      subst hb
      have hr := hR s' hj'
      obtain ⟨hp2, ge2, d2, tk2, os2⟩ := s'
      wp_walk
      exact hr
    case h =>
      exact ⟨rfl, hj, fun y hy => by simpa using hy⟩
  refine wpAny_bind (wpAny_contains_slot hT F.slot_tuple_contains (call_meetsIn (Q := fun v s' => wpAny (model prog w) A (truthy v) (fun b s' => wpAny (model prog w) A (pure (Value.bool b)) Q E s') E s') F.slot_tuple_contains hT F.entry_tuple_contains (F.args_tuple_contains_2 _ _) g ⟨rfl, hl0, h0, fun e s' q => q, fun s' q => ?_⟩))
  exact wpAny_truthy_bool (wpAny_pure (fin s' q))
end
section
variable {X : Cx} {CX : CXT} {ge : Addr} {n : Nat} {sp : Sp} {E : XK}
/-- x in (..): x an instance of a class whose __eq__ is at ge; texts, None and tuples, to which it is not equal -/
def rInOwn (K : PySem.W.Frag) (ge : Addr) (sp : Sp) (E : XK) : R2 := fun x y H Q => ∃ a C dx fs gs t items, x = .ref a ∧ H a = some (.ins C dx fs) ∧ OwnC K C gs ge ∧ PySem.W.mroIn K C (.type "str") = some false ∧ PySem.W.mroIn K C (.type "tuple") = some false ∧ PySem.W.mroIn K C (.type "NoneType") = some false ∧ y = .ref t ∧ SqT K H t items ∧
  (∀ v ∈ items, ((∃ b, v = V.str b) ∨ v = .non ∨ ∃ l xs, v = .ref l ∧ SqT K H l xs) ∧ ∀ H', Ext H H' → sp [.ref a, v] H' (fun z H2 => z = .bl false ∧ Ext H' H2) E) ∧ ∀ H', Ext H H' → Q (.bl false) H'
theorem vals_mem : ∀ {xs : List V} {us : List Value} {u : Value}, Vals xs us → u ∈ us → ∃ x ∈ xs, RelV x u
  | _, _, _, .cons r t, h => by
    rcases List.mem_cons.mp h with rfl | h
    · exact ⟨_, List.mem_cons_self .., r⟩
    · obtain ⟨x, hx, q⟩ := vals_mem t h
      exact ⟨x, List.mem_cons_of_mem _ hx, q⟩
theorem op_inOwn (F : FnR X.prog X.w X.K X.mg X.base CX n ge sp) (hr : Room (n + 1) X.A) (hx : Passes CX X E) : OpR X (compareOp .In) (rInOwn X.K ge sp E) := by
  intro pins s σ H x y v u Q I rx ry h
  obtain ⟨a, C, dx, fs, gs, t, items, rfl, ea, c, m1, m2, m3, rfl, hq, hit, q⟩ := h
  cases (show v = Value.ref a from rx)
  cases (show u = Value.ref t from ry)
  obtain ⟨its, rv, p, hz⟩ := I.tuple hq
  have hr1 : Room n X.A.in1 := hr.in1
  refine in_none (items := its.toArray) (LoopI X pins σ H) ⟨H, I, Ext.rfl'⟩ p (fun u hu s' l => ?_) (fun s' l => ?_)
  · obtain ⟨H1, I1, e1⟩ := l
    obtain ⟨w, hw, rw⟩ := vals_mem rv (by simpa using hu)
    obtain ⟨kinds, hsp⟩ := hit w hw
    obtain ⟨mA, O, rr, _, _, _⟩ := ins_get I1.hok (e1 _ _ ea)
    obtain ⟨od, J, hl⟩ := O.look
    have back : wpAny (model X.prog X.w) X.A.in1 (call (.ref ge) [.ref a, u]) (PySem.W.CmpBack fun v s2 => ∃ r, v = .bool r ∧ r = false ∧ LoopI X pins σ H s2) X.xe s' := by
      refine wpAny_mono (wpAny_call (run_at (us := [.ref a, u]) (ws := [.ref a, w]) F hr1 I1.env0.in1 hx I1 (.cons rfl (.cons rw .nil)) (hsp H1 e1))) (fun v s2 z => ?_) fun _ _ x => x
      obtain ⟨z', H', I', rz, ez, ex⟩ := z
      subst ez
      cases (show v = Value.bool false from rz)
      exact ⟨false, rfl, rfl, H', I', e1.trans ex⟩
    rcases kinds with ⟨b, rfl⟩ | rfl | ⟨l, xs, rfl, hlx⟩
    · obtain ⟨tk, rfl⟩ := (show ∃ tk, u = Value.str b tk from rw)
      exact eqb_of_rc rfl (rc_refl hr1.units0 I1.kIn J rfl m1 PySem.F.slot_str_eq (fun {Q} hQ => call_meets PySem.F.slot_str_eq rfl PySem.F.entry_str_eq (PySem.F.args_str_eq_2 _ _) (str_dec b tk a _ _) ⟨J.at_, hQ⟩) c.eq c.eqf back)
    · cases (show u = Value.none from rw)
      exact eqb_of_rc rfl (rc_refl hr1.units0 I1.kIn J rfl m3 PySem.F.slot_NoneType_eq (fun {Q} hQ => call_meets PySem.F.slot_NoneType_eq rfl PySem.F.entry_NoneType_eq (PySem.F.args_NoneType_eq_2 _ _) (NoneType___eq___none_ref_0 a).meets hQ) c.eq c.eqf back)
    · cases (show u = Value.ref l from rw)
      have hlx1 : SqT X.K H1 l xs := SqT.sm hlx e1
      obtain ⟨its2, _, p2, _⟩ := I1.tuple hlx1
      obtain ⟨o, ho, hc, _⟩ := id p2
      have ht : s'.TypeIs (.ref l) "tuple" := ⟨o, ho, hc⟩
      have hne : l ≠ a := fun z => by
        rw [z] at ho
        have z2 := ho.symm.trans J.at_
        cases z2
        cases hc
      have hb : (Value.ref l == Value.ref a) = false := by
        rw [beq_eq_false_iff_ne]
        exact fun z => hne (Value.ref.inj z)
      have hI : ∀ s0, s0 = s' → ∀ {Aa : Around} {Ee : Value → Shared → Prop} {Qq : Bool → Shared → Prop}, Qq false s0 → wpAny (model X.prog X.w) Aa (isInstance (.ref a) (.type "tuple")) Qq Ee s0 := fun s0 e0 {_ _ _} hQ => by
        subst e0
        have z : PySem.W.Looks (model X.prog X.w) s0.heap (isInstance (.ref a) (.type "tuple")) false := J.type.andThen (PySem.W.looks_mroIn I1.kIn m2)
        exact z.here hQ
      exact eqb_of_rc hb (rc_refl hr1.units0 I1.kIn J ht m2 PySem.F.slot_tuple_eq (fun {Q} hQ => call_meetsIn PySem.F.slot_tuple_eq ht PySem.F.entry_tuple_eq (PySem.F.args_tuple_eq_2 _ _) (tup_dec l a (· = s') hI) ⟨rfl, hQ⟩) c.eq c.eqf back)
  · obtain ⟨H1, I1, e1⟩ := l
    exact ⟨.bl false, H1, I1, rfl, q H1 e1⟩
end
end Own
end
section
/-! Own rules for errors with fields: a classmethod that may raise, isinstance of what was caught, repr of texts and of None. -/
namespace Own
open PySem PySem.Spec PyProof.Rows L2 ClX
section
variable {X : Cx} {CX : CXT} {k : Nat} {C p g : Addr} {mc : Value} {sp : Sp} {E : L2.St → XK} {o e : Expr} {es : List Expr} {m : Str} {pos apos : Pos} {ta : TE} {t : TA} {pl : Sem Bool}
/-- C.m(..), which may raise: what leaves may speak of the locals -/
def tCMethS (C : Addr) (sp : Sp) (E : L2.St → XK) (ta : TE) (t : TA) : TE := fun σ H Q => ta σ H fun x G => x = .ref C ∧ t σ G fun ws G' => sp (.ref C :: ws) G' Q (E σ)
theorem pe_cmethS (hO : PE X o ta) (hR : CRead X.K C mc) (hM : CMet X.K C mc m p g) (F : FnR X.prog X.w X.K X.mg X.base CX k g sp) (hr : Room k X.A) (hx : ∀ σ, PassesAt CX X σ (E σ)) (hA : PA X (e :: es) t)
    (h1 : starEach (e :: es) X.env = (false, eval e X.env) :: starEach es X.env := by rfl) (h2 : (backTo pos (starEach es X.env)).any (·.1) = false := by rfl)
    (h3 : eval (.Call (.Attribute o m apos) (e :: es) [] pos) X.env = (do
      let it ← eval o X.env
      standAt apos.atName
      let (fn, ahead) ← holding [it] (getMethod it m pl)
      callWith pos fn ahead (backTo pos (starEach (e :: es) X.env)) (backToKw pos (keywordEach [] X.env))) := by rfl) : PE X (.Call (.Attribute o m apos) (e :: es) [] pos) (tCMethS C sp E ta t) := by
  constructor
  intro pins s σ H Q I h
  refine PySem.W.methodCall_KW (pl := pl) (thn (hO.run pins s σ H _ I h) fun u s1 z => ?_) h3
  obtain ⟨x, G, J, rx, ex, q⟩ := z
  subst ex
  cases (show u = Value.ref C from rx)
  refine getmethcm_ok J hR hM fun s2 J2 => ?_
  refine callwith_cm J2 (base_none J (Nat.le_refl _)) hM.fi (thn (hA.run pos _ s2 σ G _ J2 q) fun us s3 y => ?_) h1 h2
  obtain ⟨ws, G2, J3, rv, q2⟩ := y
  refine ⟨⟨pin_at J3, J3.kIn⟩, ?_⟩
  have back : wpAny (model X.prog X.w) X.A (call (.ref s1.heap.objs.size) us) (EP X ((s1.heap.objs.size, PySem.W.methodObj (.ref g) (.ref C)) :: pins) σ Q) X.xe s3 := by
    refine wpAny_call (PySem.W.method_call (pin_at J3) (codeAny_mono (F X.A X.stack s3 G2 (.ref C :: us) (.ref C :: ws) Q (E σ) hr J3.env0 (.cons rfl rv) q2) fun r s4 z => ?_))
    match r, z with
    | .error err, z => exact hx σ _ G2 s3 err s4 J3 z
    | .ok (.ret v), z => exact J3.after z
    | .ok .next, z => exact z.elim
    | .ok .brk, z => exact z.elim
    | .ok .cont, z => exact z.elim
  exact thn back fun _ _ y => unpinE y
end
section
variable {X : Cx}
theorem call_repr_str : CallR X (.builtin "repr") (fun xs H Q => ∃ y : Str, xs = [.str y] ∧ (reprText y).length ≤ sizeLine ∧ Q (.str (reprText y)) H) := by
  intro pins s σ H xs us Q I r h
  obtain ⟨y, rfl, hz, q⟩ := h
  obtain ⟨u, rfl, ru⟩ := r.one
  obtain ⟨t, rfl⟩ := (show ∃ t, u = Value.str y t from ru)
  exact PySem.P.repr_of_str (⟨.str _, H, I.tok _, ⟨_, rfl⟩, q⟩) hz
theorem call_repr_none : CallR X (.builtin "repr") (fun xs H Q => xs = [.non] ∧ Q (.str "None") H) := by
  intro pins s σ H xs us Q I r h
  obtain ⟨rfl, q⟩ := h
  obtain ⟨u, rfl, ru⟩ := r.one
  cases (show u = Value.none from ru)
  exact PySem.P.repr_of_none ⟨.str _, H, I.tok _, ⟨_, rfl⟩, q⟩
/-- isinstance(e, c), e what the suite holds, with its own dict -/
def rIsX (K : PySem.W.Frag) (D a : Addr) (cls : Value) (d : Option Addr) : List V → Hp → VK → Prop := fun xs H Q => ∃ (T : Addr) (b : Bool) (dd : Addr) (fs : List (Str × V)), xs = [.ref a, .ref T] ∧ cls = .ref D ∧ PySem.W.kitOne K (.ref D) (.ref T) = some b ∧ d = some dd ∧ H dd = some (.xd fs) ∧ Q (.bl b) H
theorem call_isX {a D : Addr} {cls : Value} {d : Option Addr} {oe : Obj} {pn : List (Addr × Obj)} (C : L2.ExcC X.K D) (hz : Zc cls d oe) (hf : ∃ vs, oe.data = .fields vs) : CallR (X.suite a ((a, oe) :: pn)) (.builtin "isinstance") (rIsX X.K D a cls d) := by
  intro pins s σ H xs us Q I r h
  obtain ⟨T, b, dd, fs, rfl, rfl, hk, rfl, hd, q⟩ := h
  cases r with
  | cons r1 r2 =>
    cases r2 with
    | cons r3 r4 =>
      cases r4
      cases r1
      cases r3
      obtain ⟨hget, _⟩ := I.pin (a, oe) (List.mem_append.mpr (.inl List.mem_cons_self))
      obtain ⟨vs, hv⟩ := hf
      have ok : ObjOk X.prog X.w H s.heap dd (.xd fs) := I.hok dd _ hd
      obtain ⟨mA, hns, hr⟩ := ok
      obtain ⟨od, ho, hl⟩ := lookIn_ns hns
      have J : PySem.W.InstAt s.heap a oe D (some od) := ⟨hget, hz.1, by unfold PySem.W.notCls; rw [hv] <;> rfl, by rw [hz.2]; exact ho⟩
      have hcl : (PySem.W.clsIn X.K D).isSome = true := by
        obtain ⟨cd, hc, _⟩ := PySem.W.any_some C.hd
        rw [hc]; rfl
      refine PySem.W.kia_one (PySem.W.kitx_exc (ox := oe) (od := some od) hcl C.hg C.hk C.hs C.ha C.hn C.ht C.hm) I.kIn J hk (fun z => nomatch z) fun tk => ?_
      exact ⟨.bl b, H, I.kept (t' := tk) fun _ _ z => z, rfl, q⟩
end
end Own
end
section
/-! Own rules for any values: a class made whose __init__ may raise; enumerate of a list or a tuple in a comprehension. -/
namespace Own
open PySem PySem.Spec PyProof.Rows L2
section
variable {X : Cx} {CX : CXT} {k : Nat} {f C : Addr} {fd : FuncData} {ps : List Str} {sp : Sp} {dvs : List V} {ds : List Value} {E : L2.St → XK} {x : Str} {p pos : Pos} {e : Expr} {es : List Expr} {t : TA}
theorem run_makeS {pins : List (Addr × Obj)} {σ : L2.St} {H : Hp} {s : Shared} {Q : VK} {us : List Value} {vs : List V} (M : Mk X.K C f) (F : FnOk X.prog X.w X.K X.mg X.base CX k f fd ps sp) (hr : Room (k + 1) X.A) (hb : Binds X.K fd ps ds) (hd : Vals dvs ds)
    (hx : PassesAt CX X σ (E σ)) (I : Inv X pins σ H s) (r : Vals vs us)
    (h : ∀ x dx, H x = none → H dx = none → dx ≠ x → sp (.ref x :: (vs ++ dvs)) (upd (upd H dx (.own x)) x (.ins C dx [])) (fun v H2 => v = .non ∧ Q (.ref x) H2) (E σ)) :
    wpAny (model X.prog X.w) X.A (call (.ref C) us) (EP X pins σ Q) X.xe s := by
  have hq := h (s.heap.objs.size + 1) s.heap.objs.size (I.hok.fresh (Nat.le_succ _)) (I.hok.fresh (Nat.le_refl _)) (Nat.ne_of_lt (Nat.lt_succ_self _))
  have I2 := Inv.made (C := C) I
  have r2 : Vals (V.ref (s.heap.objs.size + 1) :: (vs ++ dvs)) (Value.ref (s.heap.objs.size + 1) :: (us ++ ds)) := .cons rfl (r.append hd)
  have hl : (Value.ref (s.heap.objs.size + 1) :: us ++ ds).length = ps.length := by
    have e := r2.length
    rw [F.len _ _ _ _ hq] at e
    exact e.symm
  refine wpAny_call (make_map (f := f) I.kIn M.makes M.init (beq_iff_eq.mp M.fn) (codeAny_mono (F.run _ X.stack _ _ ⟨Value.ref (s.heap.objs.size + 1) :: us, []⟩ (Value.ref (s.heap.objs.size + 1) :: (us ++ ds)) _ _ (E σ) (hr.make C us [])
    (I2.env0.make C us []) (hb _ (Value.ref (s.heap.objs.size + 1) :: us) I2.kIn hl) r2 hq) fun r s' hq' => ?_))
  cases r with
  | error e => exact hx pins _ _ e s' I2 hq'
  | ok fl =>
    cases fl with
    | ret u =>
      obtain ⟨v, H', I3, rv, ev, q3⟩ := I2.after hq'
      subst ev
      exact ⟨rv, ⟨V.ref (s.heap.objs.size + 1), H', I3, rfl, q3⟩⟩
    | next => exact False.elim hq'
    | brk => exact False.elim hq'
    | cont => exact False.elim hq'
/-- C(..), whose __init__ may raise -/
def tMakeS (C : Addr) (sp : Sp) (dvs : List V) (E : L2.St → XK) (t : TA) : TE := fun σ H Q => t σ H fun vs H1 => ∀ x dx, H1 x = none → H1 dx = none → dx ≠ x →
  sp (.ref x :: (vs ++ dvs)) (upd (upd H1 dx (.own x)) x (.ins C dx [])) (fun v H2 => v = .non ∧ Q (.ref x) H2) (E σ)
theorem pe_makeS (M : Mk X.K C f) (F : FnOk X.prog X.w X.K X.mg X.base CX k f fd ps sp) (hr : Room (k + 1) X.A) (hg : Gl X x) (hm : X.mg x = some (.ref C)) (hb : Binds X.K fd ps ds) (hd : Vals dvs ds) (hx : ∀ σ, PassesAt CX X σ (E σ))
    (ha : PA X (e :: es) t) (hdb : (x == ("__debug__" : Str)) = false := by decide) (he : starEach (e :: es) X.env = (false, eval e X.env) :: starEach es X.env := by rfl) (hpl : (backTo pos (starEach es X.env)).any (·.1) = false := by rfl) :
    PE X (.Call (.Name x p) (e :: es) [] pos) (tMakeS C sp dvs E t) := by
  refine ⟨fun pins s σ H Q I h => ?_⟩
  refine wpAny_Call_Name_kw (ld_glob I hg hm ?_ hdb)
  refine PySem.W.callWith_K (h₀ := X.base) I.ok.mod.kin M.kp (thn (ha.run pos pins s σ H _ I h) fun us s1 ⟨vs, H1, I1, r, q⟩ => ⟨I1.kIn, ?_⟩) he hpl
  exact run_makeS M F hr hb hd (hx σ) I1 r q
end
theorem lc_enumL {K : PySem.W.Frag} {a : Addr} {xs : List V} {g : TG} {tt : TT} {te : TE} {vs : List Nat} {σ : L2.St} {H1 : Hp} {D : Addr} {Qd : Hp → Prop} (Pv : Nat → Hp → Prop) (h0 : Pv 0 (upd H1 D (.lst []))) (hl : ∀ i H, i ≤ xs.length → Pv i H → SqL K H a xs)
    (hs : ∀ i x T H, xs[i]? = some x → Pv i H → H T = none → g (.ref T) (wipe σ vs) (upd H T (.tup [.int (i : Nat), x])) fun σ2 H2 => wipe σ2 vs = wipe σ vs ∧ tt σ2 H2 fun b H3 =>
      if b = true then te σ2 H3 fun y H4 => ∃ acc, H4 D = some (.lst acc) ∧ acc.length < sizeLine ∧ Pv (i + 1) (upd H4 D (.lst (acc ++ [y]))) else Pv (i + 1) H3) (hd : ∀ H, Pv xs.length H → Qd H) :
    ∃ W : Nat → Nat → Hp → Prop, (∃ m, W 0 m (upd H1 D (.lst []))) ∧ ∀ i m H, W i m H →
      ((Ite K a).stop i H ∧ Qd H) ∨ ((Ite K a).go i H ∧ ∃ Nx : Hp → Prop, (∀ H', Nx H' → ∃ m', m' < m ∧ W (i + 1) m' H') ∧ ∀ x H', (Ite K a).yld i H x H' → g x (wipe σ vs) H' fun σ2 H2 => wipe σ2 vs = wipe σ vs ∧ tt σ2 H2 fun b H3 =>
        if b = true then te σ2 H3 fun y H4 => ∃ acc, H4 D = some (.lst acc) ∧ acc.length < sizeLine ∧ Nx (upd H4 D (.lst (acc ++ [y]))) else Nx H3) := by
  refine ⟨fun i m H => m = xs.length - i ∧ i ≤ xs.length ∧ Pv i H, ⟨xs.length, by simp, Nat.zero_le _, h0⟩, ?_⟩
  rintro i m H ⟨rfl, hi, p⟩
  have q := hl i H hi p
  by_cases hlt : i < xs.length
  · refine .inr ⟨⟨xs, xs[i], q, List.getElem?_eq_getElem hlt⟩, Pv (i + 1), fun H' p' => ⟨xs.length - (i + 1), by omega, rfl, hlt, p'⟩, fun v H' y => ?_⟩
    obtain ⟨T, x', rfl, hT, rfl, f⟩ := y
    exact hs i x' T H (f xs q) p hT
  · have e : i = xs.length := by omega
    subst e
    exact .inl ⟨⟨xs, q, Nat.le_refl _⟩, hd H p⟩
theorem lc_enumT {K : PySem.W.Frag} {a : Addr} {xs : List V} {g : TG} {tt : TT} {te : TE} {vs : List Nat} {σ : L2.St} {H1 : Hp} {D : Addr} {Qd : Hp → Prop} (Pv : Nat → Hp → Prop) (h0 : Pv 0 (upd H1 D (.lst []))) (hl : ∀ i H, i ≤ xs.length → Pv i H → SqT K H a xs)
    (hs : ∀ i x T H, xs[i]? = some x → Pv i H → H T = none → g (.ref T) (wipe σ vs) (upd H T (.tup [.int (i : Nat), x])) fun σ2 H2 => wipe σ2 vs = wipe σ vs ∧ tt σ2 H2 fun b H3 =>
      if b = true then te σ2 H3 fun y H4 => ∃ acc, H4 D = some (.lst acc) ∧ acc.length < sizeLine ∧ Pv (i + 1) (upd H4 D (.lst (acc ++ [y]))) else Pv (i + 1) H3) (hd : ∀ H, Pv xs.length H → Qd H) :
    ∃ W : Nat → Nat → Hp → Prop, (∃ m, W 0 m (upd H1 D (.lst []))) ∧ ∀ i m H, W i m H →
      ((IteT K a).stop i H ∧ Qd H) ∨ ((IteT K a).go i H ∧ ∃ Nx : Hp → Prop, (∀ H', Nx H' → ∃ m', m' < m ∧ W (i + 1) m' H') ∧ ∀ x H', (IteT K a).yld i H x H' → g x (wipe σ vs) H' fun σ2 H2 => wipe σ2 vs = wipe σ vs ∧ tt σ2 H2 fun b H3 =>
        if b = true then te σ2 H3 fun y H4 => ∃ acc, H4 D = some (.lst acc) ∧ acc.length < sizeLine ∧ Nx (upd H4 D (.lst (acc ++ [y]))) else Nx H3) := by
  refine ⟨fun i m H => m = xs.length - i ∧ i ≤ xs.length ∧ Pv i H, ⟨xs.length, by simp, Nat.zero_le _, h0⟩, ?_⟩
  rintro i m H ⟨rfl, hi, p⟩
  have q := hl i H hi p
  by_cases hlt : i < xs.length
  · refine .inr ⟨⟨xs, xs[i], q, List.getElem?_eq_getElem hlt⟩, Pv (i + 1), fun H' p' => ⟨xs.length - (i + 1), by omega, rfl, hlt, p'⟩, fun v H' y => ?_⟩
    obtain ⟨T, x', rfl, hT, rfl, f⟩ := y
    exact hs i x' T H (f xs q) p hT
  · have e : i = xs.length := by omega
    subst e
    exact .inl ⟨⟨xs, q, Nat.le_refl _⟩, hd H p⟩
end Own
end
section
/-! Own rules for errors made and raised where nothing is handled (their context None), and again in an except suite. -/
namespace Own
open PySem PySem.Spec PyProof.Rows L2
section
variable {P : Program} {w : World} {K : PySem.W.Frag} {mg : Str → Option Value} {base : Heap}
/-- a def, whatever leaves it -/
theorem okC {CX : CXT} {x qual : Str} {st : Stmt} {f : Addr} {fd : FuncData} {N ps : List Str} {k : Nat} {sp : Sp} (F : Fun K x qual st f fd) (S : FnScope N ps (defScope st)) (len : ∀ vs H Q E, sp vs H Q E → vs.length = ps.length)
    (body : ∀ (cdv : Value) (A : Around) (outer : List Env) (s : Shared) (H : Hp) (vs : List V) (Q : VK) (E : XK), Room k (A.deeper (envOfC qual (defScope st) s.heap.objs.size f cdv)) → sp vs H Q E →
      ∃ t, PSs (cxOf CX P w K mg base N qual (defScope st) f cdv A outer s H E) (defBody st) t ∧ t { nx := fun _ H' => Q .non H', rt := Q } (L2.start N vs) H) : FnOk P w K mg base CX (k + 1) f fd ps sp := by
  rcases F.ex with ⟨_, _, _, _, _, _, cdv, _, _, rfl, lk, hcd⟩
  exact fn_of lk hcd S len (body cdv)
/-- a def that is called in an except suite -/
theorem okH {CX : CXT} {x qual : Str} {st : Stmt} {f : Addr} {fd : FuncData} {N ps : List Str} {k : Nat} {sp : Sp} (F : Fun K x qual st f fd) (S : FnScope N ps (defScope st)) (len : ∀ vs H Q E, sp vs H Q E → vs.length = ps.length)
    (body : ∀ (cdv : Value) (A : Around) (outer : List Env) (s : Shared) (H : Hp) (vs : List V) (Q : VK) (E : XK) (p : Addr × Obj), sp vs H Q E →
      ∃ t, PSs (L2H.cxH CX P w K mg base N qual (defScope st) f cdv A outer s H E p) (defBody st) t ∧ t { nx := fun _ H' => Q .non H', rt := Q } (L2.start N vs) H) : L2H.FnH P w K mg base CX (k + 1) f fd ps sp := by
  rcases F.ex with ⟨_, _, _, _, _, _, cdv, _, _, rfl, lk, hcd⟩
  exact L2H.fn_ofH lk hcd S len fun A outer s H vs Q E p _ _ => body cdv A outer s H vs Q E p
end
section
variable {X : Cx} {CX : CXT} {x : Str} {C g : Addr} {k : Nat} {fd : FuncData} {ps : List Str} {sp : Sp} {ds : List Value} {dvs : List V} {e : Expr} {es : List Expr} {ta : TA} {p pos : Pos}
/-- C(e, ..), an own error with its own __init__, made where nothing is handled -/
theorem pmkN (T : OexC X.K C) (iC : PySem.W.findIn X.K (.ref C) "__init__" = some (some (.ref g))) (tI : PySem.W.typeIn X.K (.ref g) = some (.type "function")) (F : FnOk X.prog X.w X.K X.mg X.base CX k g fd ps sp) (hr : Room (k + 1) X.A)
    (hb : Binds X.K fd ps ds) (hd : Vals dvs ds) (hx : Passes CX X (fun _ _ _ => False)) (hg : Gl X x) (hm : X.mg x = some (.ref C)) (hA : PA X (e :: es) ta) (nd : (x == ("__debug__" : Str)) = false := by decide)
    (h1 : starEach (e :: es) X.env = (false, eval e X.env) :: starEach es X.env := by rfl) (h2 : (backTo pos (starEach es X.env)).any (·.1) = false := by rfl) : L2N.PMk X (.Call (.Name x p) (e :: es) [] pos) (tMkO C sp dvs ta) := by
  intro pins s0 σ H Q I h
  rcases T.cls with ⟨_, _, _, _, mro, _, _, _, _, _, _, _, _, _, _, low, hmro⟩
  have run := hA.run pos pins s0 σ H _ I h
  refine wpAny_Call_Name_kw (ld_glob I hg hm (PySem.W.callWith_K I.ok.mod.kin T.kC (thn run fun args st ⟨ws, G, J, rv, small, q⟩ => ⟨J.kIn, ?_⟩) h1 h2) nd)
  rcases st with ⟨hh, gg, dd, tt, oo⟩
  have up : hh.objs.size ≤ hh.objs.size + 1 := Nat.le_add_right _ 1
  have q' := q (hh.objs.size + 1) (J.hok.fresh up)
  let h3 := (hh.push (PySem.W.kdv_tup args)).push (PySem.HandSPX.excO C hh.objs.size)
  have keep : ∀ b o, hh.get? b = some o → h3.get? b = some o := fun _ _ z => Heap.get?_push_of_some _ (Heap.get?_push_of_some _ z)
  have new : h3.get? (hh.objs.size + 1) = some (PySem.HandSPX.excO C hh.objs.size) := by
    show ((hh.push (PySem.W.kdv_tup args)).push (PySem.HandSPX.excO C hh.objs.size)).get? _ = _
    heap_get
  have J3 : Inv X pins σ (upd G (hh.objs.size + 1) (exo (hh.objs.size + 1) C none)) ⟨h3, gg, dd, tt, oo⟩ := J.laid (t' := tt) keep up (exo_ok new)
  have rv3 : Vals (V.ref (hh.objs.size + 1) :: (ws ++ dvs)) (Value.ref (hh.objs.size + 1) :: (args ++ ds)) := .cons rfl (rv.append hd)
  have ln : (Value.ref (hh.objs.size + 1) :: args ++ ds).length = ps.length := (rv3.length.symm.trans (F.len _ _ _ _ q')).symm ▸ rfl
  have few : args.length ≤ sizeLine := by
    have := Paired.length rv
    rw [sizeLine_eq]; omega
  have called := F.run _ X.stack _ _ ⟨Value.ref (hh.objs.size + 1) :: args, []⟩ _ _ _ (fun _ _ _ => False) (hr.make C args []) (J3.env0.make C args []) (hb _ (Value.ref (hh.objs.size + 1) :: args) J3.kIn ln) rv3 q'
  refine wpAny_call (PySem.HandSPX.call_own PySem.F.excBase_ValueError (fun Y => PySem.HandSPX.refsVE_contains Y mro hmro) (J.kIn _ _ low) (PySem.W.looks_findIn J.kIn iC) (fun self => PySem.W.bind_fn J.kIn self tI) few (codeAny_mono called fun r s4 z => ?_))
  match r, z with
  | .error er, z => exact hx pins σ _ _ er s4 J3 z
  | .ok (.ret u), z =>
    rcases z with ⟨v, H4, os4, ba4, un4, ok4, rr, rfl, d, fs, ea, ed, nd1, q4⟩
    rcases s4 with ⟨h4, g4, d4, t4, o4⟩
    rcases mk_end0 (d2 := d4) (t2 := t4) J up keep un4 ok4 os4 ba4 ea ed nd1 with ⟨t0, Gr, J4, kG, gone, obj, na⟩
    refine ⟨rr, _, _, _, ⟨Gr, g4, d4, t4, o4⟩, _, .ref C, some d, rfl, J4, kG, gone, obj, ⟨rfl, rfl, fun vs hv => ?_⟩, rfl, rfl, na, rfl, ba4, raises_own T.exC T.tyC, q4⟩
    cases hv
    rfl
  | .ok .next, z => exact z.elim
  | .ok .brk, z => exact z.elim
  | .ok .cont, z => exact z.elim
end
end Own
end
section
/-! Own rule: xs[::k] where k is an expression whose value is -1. -/
namespace Own
open PySem PySem.Spec PyProof.Rows L2
section
variable {X : Cx}
/-- a list turned about, the step an expression -/
def tTurned (K : PySem.W.Frag) (te : TE) (tk : TO) : TE := fun σ H Q => te σ H fun x G => ∃ a xs, x = .ref a ∧ tk σ G fun o G' => o = some (-1) ∧ SqL K G' a xs ∧ ∀ p, G' p = none → Q (.ref p) (upd G' p (.lst xs.reverse))
theorem pe_turned {e k : Expr} {te : TE} {tk : TO} {p3 pos : Pos} (he : PE X e te) (hk : PO X (some k) tk) : PE X (.Subscript e (.Slice none none (some k) p3) pos) (tTurned X.K te tk) := by
  constructor
  intro pins s0 σ H Q I h
  refine Subscript_ (thn (he.run pins s0 σ H _ I h) fun v sA z => ?_)
  rcases z with ⟨x, G, J, rx, a, xs, rfl, q⟩
  cases (show v = Value.ref a from rx)
  have none1 := fun {s : Shared} {G : Hp} (J : Inv X pins σ G s) => po_none.run pins s σ G (fun o G2 => o = none ∧ G2 = G) J ⟨rfl, rfl⟩
  refine wpAny_Slice (thn (none1 J) fun vl sB z1 => ?_)
  rcases z1 with ⟨l, GB, JB, pl, rfl, rfl⟩
  refine thn (none1 JB) fun vu sC z2 => ?_
  rcases z2 with ⟨u, GC, JC, pu, rfl, rfl⟩
  refine thn (hk.run pins sC σ _ _ JC q) fun vs sD z3 => ?_
  rcases z3 with ⟨o, GD, JD, ps, rfl, hx, q3⟩
  have JE : Inv X pins σ GD { sD with heap := sD.heap.push { cls := .type "slice", data := .fields #[vl, vu, vs] } } := JD.kept (t' := sD.toks) fun _ _ z => Heap.get?_push_of_some _ z
  rcases JE.list hx with ⟨its, rv, isl, small⟩
  have hl := rv.length
  show wpAny (model X.prog X.w) X.A (subscriptTail e (.Slice none none (some k) p3) (.ref a) (.ref sD.heap.objs.size)) _ _ _
  refine tail_any (ops := [.ref a, .ref sD.heap.objs.size]) isl.isList.typeIs (PySem.slot_list_getitem.lookup) (wpAny_getItem_list_slice isl.isList (Heap.IsSliceOf.new _ vl vu vs) pl pu ps (by decide) ?_ (by rw [List.size_toArray]; omega)) (by with_unfolding_all rfl)
  rw [PySem.W.krv_pick]
  exact ⟨.ref _, _, JE.laid (t' := sD.toks) (o := .lst xs.reverse) (fun _ _ z => Heap.get?_push_of_some _ z) (Nat.le_refl _) ⟨by rw [List.length_reverse]; exact small, _, 0, rv.reverse, Heap.get?_push_size _ rfl⟩, rfl, q3 _ (JE.hok.fresh (Nat.le_refl _))⟩
end
end Own
end
section
/-! sorted of a tuple of ints. -/
namespace Own
open PySem PySem.Spec PyProof.Rows L2
section
variable {prog : Program} {w : World} {A : Around} {E : Value → Shared → Prop} {s : Shared}
theorem collect_tup {l : Addr} {vs : List Value} {Q : List Value → Shared → Prop} (hl : s.heap.IsTuple l vs.toArray)
    (h : Q vs { s with heap := (s.heap.push (seqObj "list" #[] 0)).update s.heap.objs.size (Obj.mapSeq (· ++ vs.toArray)) }) (hsz : vs.length ≤ sizeLine) :
    wpAny (model prog w) A (collect (.ref l)) Q E s := by
  obtain ⟨o, ho, hc, n, hd⟩ := id hl
  unfold collect
  refine wpAny_bind (wpAny_runValue (codeAny_builtin entry_proto_collect' ?_))
  show wpAny _ _ (do again (.builtin "list.__iadd__" ⟨[← newList [], .ref l], []⟩)) _ _ s
  refine wpAny_bind (wpAny_newList (wpAny_pure ⟨Code.quiet_builtin _ (by decide +kernel), codeAny_builtin entry_list_iadd' ?_⟩))
  show wpAny _ _ (Builtin.List.listExtendWith (.ref s.heap.objs.size) (.ref l) (.ref s.heap.objs.size)) _ _ { s with heap := s.heap.push (seqObj "list" #[] 0) }
  unfold Builtin.List.listExtendWith
  have ho' : (s.heap.push (seqObj "list" #[] 0)).get? l = some o := Heap.get?_push_of_some _ ho
  refine wpAny_bind (wpAny_typeOf (T := "tuple") ⟨o, ho', hc⟩ ?_)
  have ht : (Value.type "tuple" == Value.type "tuple") = true := by rfl
  rw [if_pos (by rw [ht]; simp)]
  refine wpAny_bind (listItems_at ho' hd ?_)
  refine wpAny_bind (listItems_at (xs := #[]) (n := 0) (Heap.get?_push_size _ rfl) rfl ?_)
  rw [if_neg (by simp)]
  refine wpAny_bind (listUpdate_at (xs := #[]) (n := 0) (Heap.get?_push_size _ rfl) rfl ?_ (Nat.zero_le _) (by show (#[] ++ vs.toArray).size ≤ sizeLine + 1; simp only [Array.size_append, List.size_toArray, List.length_nil]; omega))
  refine wpAny_pure ?_
  show wpAny (model prog w) A (do
      let o ← load s.heap.objs.size
      match o.data with
      | .seq xs _ => pure xs.toList
      | _ => unsupported "internal:collect") Q E { s with heap := (s.heap.push (seqObj "list" #[] 0)).update s.heap.objs.size (Obj.mapSeq (· ++ vs.toArray)) }
  refine wpAny_bind (wpAny_load (get?_update_seq (Heap.get?_push_size _ rfl) _) ?_)
  show wpAny _ _ (pure ((#[] : Array Value) ++ vs.toArray).toList) Q E _
  rw [show ((#[] : Array Value) ++ vs.toArray).toList = vs by simp]
  exact wpAny_pure h
theorem sorted_tupI {l : Addr} {vs : List Value} {ns : List Int} {Q : Value → Shared → Prop} (hl : s.heap.IsTuple l vs.toArray) (hI : IntsAre vs ns) (hL : vs.length ≤ sizeLine)
    (h : ∀ (out : Array Value) (ns' : List Int), IntsAre out.toList ns' → ns'.Perm ns → ns'.Pairwise (· ≤ ·) → Q (.ref (s.heap.objs.size + 1)) { s with heap := sortedAll s.heap vs out }) :
    wpAny (model prog w) A (call (.builtin "sorted") [.ref l]) Q E s := by
  refine Calls.call_function_entry kind_sorted plain_sorted entry_sorted (args_sorted1 _) ?_
  unfold Builtin.«sorted»
  refine wpAny_bind (m := checkCount "sorted" 1 1 _) (wpAny_pure ?_)
  refine wpAny_bind (collect_tup hl ?_ hL)
  refine wpAny_bind (wpAny_newList ?_)
  have hsz : ((s.heap.push (seqObj "list" #[] 0)).update s.heap.objs.size (Obj.mapSeq (· ++ vs.toArray))).objs.size = s.heap.objs.size + 1 := by
    rw [Heap.size_update, size_push']
  have hoL : (((s.heap.push (seqObj "list" #[] 0)).update s.heap.objs.size (Obj.mapSeq (· ++ vs.toArray))).push (seqObj "list" vs.toArray 0)).get? (s.heap.objs.size + 1) = some (seqObj "list" vs.toArray 0) := by
    rw [← hsz]; exact Heap.get?_push_size _ rfl
  show wpAny _ _ _ _ _ { s with heap := ((s.heap.push (seqObj "list" #[] 0)).update s.heap.objs.size (Obj.mapSeq (· ++ vs.toArray))).push (seqObj "list" vs.toArray 0) }
  rw [hsz]
  refine wpAny_bind (wpAny_holding (wpAny_call_entry slot_list_sort ⟨_, hoL, rfl⟩ entry_list_sort (list_sort_treeAny hoL hI hL fun out ns' a1 a2 a3 => ⟨_, rfl, ?_⟩) (args_list_sort _)))
  exact wpAny_pure ⟨_, rfl, h out ns' a1 a2 a3⟩
end
def rSortedT (K : PySem.W.Frag) : List V → Hp → VK → Prop := fun vs H Q => ∃ (a : Addr) (ns : List Int), vs = [V.ref a] ∧ SqT K H a (ns.map V.int) ∧
  ∀ (ns' : List Int) (p : Addr), ns'.Perm ns → ns'.Pairwise (· ≤ ·) → H p = none → Q (.ref p) (upd H p (.lst (ns'.map V.int)))
theorem cr_sortedT {X : Cx} : CallR X (.builtin "sorted") (rSortedT X.K) := by
  intro pins s σ H vs us Q I r h
  obtain ⟨a, ns, rfl, hs, q⟩ := h
  obtain ⟨its, rv, hl, hz⟩ := I.tuple hs
  rw [Vals.ref1 r]
  have hi := rv.ints
  refine sorted_tupI (show s.heap.IsTuple a its.toArray from hl) hi (by rw [← rv.length]; exact hz) fun out ns' h1 h2 h3 => ?_
  obtain ⟨ep, he'⟩ := PyProof.Rows.sortedAll_at s.heap its out
  have hlen : (ns'.map V.int).length ≤ sizeLine := by
    rw [List.length_map, h2.length_eq]
    rw [List.length_map] at hz
    exact hz
  exact ⟨.ref _, upd H (s.heap.objs.size + 1) (.lst (ns'.map V.int)), I.laid (t' := s.toks) (fun _ _ => PyProof.Rows.sortedAll_old) (Nat.le_succ _) ⟨hlen, out.toList, ep, vals_of_ints h1, he'⟩, rfl, q ns' _ h2 h3 (I.hok.fresh (Nat.le_succ _))⟩
/-- of a list or a tuple of ints -/
theorem cr_sortedS {X : Cx} : CallR X (.builtin "sorted") (fun vs H Q => rSortedI X.K vs H Q ∨ rSortedT X.K vs H Q) := CallR.or cr_sortedI cr_sortedT
end Own
end
section
/-! Vs: a reading by values. What is never changed again is a tree (T), what changes is an object of a store (MO, by number); a def is a function of trees and stores. -/
namespace Vs
open PySem PySem.Spec PyProof.Rows L2

/-- the program and the world whose dicts are spoken of -/
class WW where
  p : Program
  w : World
/-! ### trees, slots, stores -/
inductive T where
  | non | bl (b : Bool) | int (i : Int) | str (x : Str)
  | lst (xs : List T) | tup (xs : List T) | seq (xs : List T)
  | ins (C : Addr) (fs : List (Str × T))
  | cst (v : V)
inductive Sl where
  | val (t : T)
  | own (i : Nat)
/-- what may change: a list; a dict by texts; an instance; a list that holds what may change; a dict by tuples of any depth; nothing any more -/
inductive MO where
  | lst (xs : List T)
  | rcd (fs : List (Str × Sl))
  | ins (C : Addr) (fs : List (Str × Sl))
  | lsO (xs : List Sl)
  | dct (kvs : List (T × T))
  | dead
inductive Out (α : Type) where
  | ok (a : α)
  | ex (C : Addr) (fs : List (Str × T))
abbrev M (α : Type) := Option (Out α × List MO)
structure S where
  ρ : List (Option Sl)
  m : List MO
def bM {α β : Type} (x : M α) (f : α → List MO → M β) : M β := match x with
  | none => none
  | some (.ok a, m) => f a m
  | some (.ex C fs, m) => some (.ex C fs, m)
abbrev rM {α : Type} (a : α) (m : List MO) : M α := some (.ok a, m)

/-! ### what they stand for -/
mutual
inductive Rp (K : PySem.W.Frag) (F : Hp) : V → T → Prop
  | non : Rp K F .non .non
  | bl (b : Bool) : Rp K F (.bl b) (.bl b)
  | int (i : Int) : Rp K F (.int i) (.int i)
  | str (x : Str) : Rp K F (.str x) (.str x)
  | lst {a : Addr} {xs : List V} {ts : List T} : F a = some (.lst xs) → RpL K F xs ts → Rp K F (.ref a) (.lst ts)
  | seq {a : Addr} {xs : List V} {ts : List T} : SqL K F a xs → RpL K F xs ts → Rp K F (.ref a) (.seq ts)
  | tup {a : Addr} {xs : List V} {ts : List T} : SqT K F a xs → RpL K F xs ts → Rp K F (.ref a) (.tup ts)
  | ins {a C dx : Addr} {vs : List (Str × V)} {fs : List (Str × T)} : F a = some (.ins C dx vs) → RpF K F vs fs → Rp K F (.ref a) (.ins C fs)
  | cst (v : V) : Rp K F v (.cst v)
inductive RpL (K : PySem.W.Frag) (F : Hp) : List V → List T → Prop
  | nil : RpL K F [] []
  | cons {v : V} {vs : List V} {t : T} {ts : List T} : Rp K F v t → RpL K F vs ts → RpL K F (v :: vs) (t :: ts)
inductive RpF (K : PySem.W.Frag) (F : Hp) : List (Str × V) → List (Str × T) → Prop
  | nil : RpF K F [] []
  | cons {x : Str} {v : V} {vs : List (Str × V)} {t : T} {ts : List (Str × T)} : Rp K F v t → RpF K F vs ts → RpF K F ((x, v) :: vs) ((x, t) :: ts)
end
section
variable {K : PySem.W.Frag} {F F' : Hp}
theorem sqT_same {a : Addr} {xs : List V} (e : Same F F') (h : SqT K F a xs) : SqT K F' a xs := h.elim (fun h => .inl (h.elim (fun h => .inl (e _ _ h)) fun ⟨o, h⟩ => .inr ⟨o, e _ _ h⟩)) .inr
mutual
theorem Rp.same (e : Same F F') : ∀ {v : V} {t : T}, Rp K F v t → Rp K F' v t
  | _, _, .non => .non
  | _, _, .bl b => .bl b
  | _, _, .int i => .int i
  | _, _, .str x => .str x
  | _, _, .lst h r => .lst (e _ _ h) (RpL.same e r)
  | _, _, .seq h r => .seq (e.seq h) (RpL.same e r)
  | _, _, .tup h r => .tup (sqT_same e h) (RpL.same e r)
  | _, _, .ins h r => .ins (e _ _ h) (RpF.same e r)
  | _, _, .cst v => .cst v
theorem RpL.same (e : Same F F') : ∀ {vs : List V} {ts : List T}, RpL K F vs ts → RpL K F' vs ts
  | _, _, .nil => .nil
  | _, _, .cons h r => .cons (Rp.same e h) (RpL.same e r)
theorem RpF.same (e : Same F F') : ∀ {vs : List (Str × V)} {ts : List (Str × T)}, RpF K F vs ts → RpF K F' vs ts
  | _, _, .nil => .nil
  | _, _, .cons h r => .cons (Rp.same e h) (RpF.same e r)
end
theorem RpL.length : ∀ {vs : List V} {ts : List T}, RpL K F vs ts → vs.length = ts.length
  | _, _, .nil => rfl
  | _, _, .cons _ r => by rw [List.length_cons, List.length_cons, RpL.length r]
theorem RpL.append : ∀ {vs ws : List V} {ts us : List T}, RpL K F vs ts → RpL K F ws us → RpL K F (vs ++ ws) (ts ++ us)
  | _, _, _, _, .nil, h => h
  | _, _, _, _, .cons a r, h => .cons a (RpL.append r h)
theorem RpL.take : ∀ {vs : List V} {ts : List T} (n : Nat), RpL K F vs ts → RpL K F (vs.take n) (ts.take n)
  | _, _, 0, _ => by rw [List.take_zero, List.take_zero]; exact .nil
  | _, _, n + 1, .nil => .nil
  | _, _, n + 1, .cons a r => .cons a (RpL.take n r)
theorem RpL.drop : ∀ {vs : List V} {ts : List T} (n : Nat), RpL K F vs ts → RpL K F (vs.drop n) (ts.drop n)
  | _, _, 0, r => r
  | _, _, n + 1, .nil => .nil
  | _, _, n + 1, .cons _ r => RpL.drop n r
theorem RpL.get : ∀ {vs : List V} {ts : List T} {i : Nat} {t : T}, RpL K F vs ts → ts[i]? = some t → ∃ v, vs[i]? = some v ∧ Rp K F v t
  | _, _, i, t, .nil, e => by simp at e
  | _, _, 0, t, .cons a r, e => by
    rw [List.getElem?_cons_zero] at e
    cases e
    exact ⟨_, rfl, a⟩
  | _, _, i + 1, t, .cons a r, e => by
    rw [List.getElem?_cons_succ] at e
    obtain ⟨v, h1, h2⟩ := RpL.get r e
    exact ⟨v, by rw [List.getElem?_cons_succ]; exact h1, h2⟩
theorem RpL.getV : ∀ {vs : List V} {ts : List T} {i : Nat} {v : V}, RpL K F vs ts → vs[i]? = some v → ∃ t, ts[i]? = some t ∧ Rp K F v t
  | _, _, i, t, .nil, e => by simp at e
  | _, _, 0, t, .cons a r, e => by
    rw [List.getElem?_cons_zero] at e
    cases e
    exact ⟨_, rfl, a⟩
  | _, _, i + 1, t, .cons a r, e => by
    rw [List.getElem?_cons_succ] at e
    obtain ⟨v, h1, h2⟩ := RpL.getV r e
    exact ⟨v, by rw [List.getElem?_cons_succ]; exact h1, h2⟩
theorem RpL.reverse : ∀ {vs : List V} {ts : List T}, RpL K F vs ts → RpL K F vs.reverse ts.reverse
  | _, _, .nil => .nil
  | _, _, .cons a r => by
    rw [List.reverse_cons, List.reverse_cons]
    exact (RpL.reverse r).append (.cons a .nil)
theorem RpF.lookup : ∀ {vs : List (Str × V)} {ts : List (Str × T)} {x : Str} {t : T}, RpF K F vs ts → ts.lookup x = some t → ∃ v, vs.lookup x = some v ∧ Rp K F v t
  | _, _, x, t, .nil, e => by cases e
  | _, _, x, t, .cons (x := y) a r, e => by
    rw [List.lookup_cons] at e ⊢
    cases h : x == y with
    | true => rw [h] at e; cases e; exact ⟨_, rfl, a⟩
    | false => rw [h] at e; exact RpF.lookup r e
end
/-! a key -/
mutual
def nkOf : T → Option NestedKey
  | .non => some .none
  | .bl b => some (.num (if b = true then 1 else 0))
  | .int i => some (.num i)
  | .str x => some (.text x)
  | .tup ts => match nksOf ts with
    | some ks => some (.tup ks)
    | none => none
  | _ => none
def nksOf : List T → Option (List NestedKey)
  | [] => some []
  | t :: r => match nkOf t, nksOf r with
    | some k, some ks => some (k :: ks)
    | _, _ => none
end
/-- a dict object by such keys -/
def DN (p : Program) (w : World) (a : Addr) (xs : List (NestedKey × Addr × Value)) : HO := .ext fun h => ∃ o es ep, h.get? a = some o ∧ o.ExactDict ∧ o.data = .dict es ep ∧ es.toList = xs.map (entryOfKey (nestedKind p w)) ∧ (xs.map (·.1)).Nodup ∧ xs.length ≤ sizeLine ∧ (a == sysModules) = false
/-- its pairs, as trees -/
def DRel (K : PySem.W.Frag) (F : Hp) : List (T × T) → List (NestedKey × Addr × Value) → Prop := Paired fun p q => nkOf p.1 = some q.1 ∧ q.1.depth ≤ 8 ∧ Rp K F (.ref q.2.1) p.1 ∧ ∃ v, RelV v q.2.2 ∧ Rp K F v p.2
theorem DRel.same {K : PySem.W.Frag} {F F' : Hp} (e : Same F F') : ∀ {kvs : List (T × T)} {xs : List (NestedKey × Addr × Value)}, DRel K F kvs xs → DRel K F' kvs xs
  | _, _, .nil => .nil
  | _, _, .cons ⟨h1, h2, h3, v, h4, h5⟩ r => .cons ⟨h1, h2, h3.same e, v, h4, h5.same e⟩ (DRel.same e r)
/-- a slot's value -/
def RpS (K : PySem.W.Frag) (F : Hp) (α : List Addr) (v : V) : Sl → Prop
  | .val t => Rp K F v t
  | .own i => ∃ a, α[i]? = some a ∧ v = .ref a
inductive RpG (K : PySem.W.Frag) (F : Hp) (α : List Addr) : List (Str × V) → List (Str × Sl) → Prop
  | nil : RpG K F α [] []
  | cons {x : Str} {v : V} {vs : List (Str × V)} {t : Sl} {ts : List (Str × Sl)} : RpS K F α v t → RpG K F α vs ts → RpG K F α ((x, v) :: vs) ((x, t) :: ts)
inductive RpSs (K : PySem.W.Frag) (F : Hp) (A : List Addr) : List V → List Sl → Prop
  | nil : RpSs K F A [] []
  | cons {v : V} {vs : List V} {t : Sl} {ts : List Sl} : RpS K F A v t → RpSs K F A vs ts → RpSs K F A (v :: vs) (t :: ts)
variable [WW]
def kvs (vs : List (Str × V)) : List (Key × V) := vs.map fun p => (.inr p.1, p.2)
def MRep (K : PySem.W.Frag) (F : Hp) (α : List Addr) (H : Hp) (a : Addr) : MO → Prop
  | .lst ts => F a = none ∧ ∃ xs, H a = some (.lst xs) ∧ RpL K F xs ts
  | .rcd fs => F a = none ∧ ∃ vs, H a = some (.dK (kvs vs)) ∧ RpG K F α vs fs
  | .ins C fs => F a = none ∧ ∃ dx vs, H a = some (.ins C dx vs) ∧ RpG K F α vs fs
  | .lsO ss => F a = none ∧ ∃ xs, H a = some (.lst xs) ∧ RpSs K F α xs ss
  | .dct ps => F a = none ∧ ∃ xs, H a = some (DN WW.p WW.w a xs) ∧ DRel K F ps xs
  | .dead => True
section
variable {K : PySem.W.Frag} {F F' : Hp} {α α' : List Addr}
theorem pre_get {i : Nat} {a : Addr} (p : α <+: α') (h : α[i]? = some a) : α'[i]? = some a := by
  obtain ⟨β, rfl⟩ := p
  have hi : i < α.length := (List.getElem?_eq_some_iff.mp h).1
  rw [List.getElem?_append_left hi]
  exact h
theorem RpS.next (e : Same F F') (p : α <+: α') {v : V} {s : Sl} (h : RpS K F α v s) : RpS K F' α' v s := by
  cases s with
  | val t => exact Rp.same e h
  | own i =>
    obtain ⟨a, h1, h2⟩ := h
    exact ⟨a, pre_get p h1, h2⟩
theorem RpG.next (e : Same F F') (p : α <+: α') : ∀ {vs : List (Str × V)} {ts : List (Str × Sl)}, RpG K F α vs ts → RpG K F' α' vs ts
  | _, _, .nil => .nil
  | _, _, .cons h r => .cons (h.next e p) (RpG.next e p r)
theorem RpSs.next (e : Same F F') (p : α <+: α') : ∀ {vs : List V} {ss : List Sl}, RpSs K F α vs ss → RpSs K F' α' vs ss
  | _, _, .nil => .nil
  | _, _, .cons h r => .cons (h.next e p) (RpSs.next e p r)
theorem MRep.next (e : Same F F') (p : α <+: α') {H H' : Hp} {a : Addr} (k : ∀ o, H a = some o → H' a = some o) (f : F a = none → F' a = none) {o : MO} (h : MRep K F α H a o) : MRep K F' α' H' a o := by
  cases o with
  | lst ts => obtain ⟨z, xs, h1, h2⟩ := h; exact ⟨f z, xs, k _ h1, h2.same e⟩
  | rcd fs => obtain ⟨z, xs, h1, h2⟩ := h; exact ⟨f z, xs, k _ h1, h2.next e p⟩
  | ins C fs => obtain ⟨z, dx, xs, h1, h2⟩ := h; exact ⟨f z, dx, xs, k _ h1, h2.next e p⟩
  | lsO ss => obtain ⟨z, xs, h1, h2⟩ := h; exact ⟨f z, xs, k _ h1, h2.next e p⟩
  | dct ps => obtain ⟨z, xs, h1, h2⟩ := h; exact ⟨f z, xs, k _ h1, DRel.same e h2⟩
  | dead => trivial
end
/-- the objects of a store stand in the heap, apart from what is never changed -/
structure Objs (K : PySem.W.Frag) (F : Hp) (α : List Addr) (m : List MO) (H : Hp) : Prop where
  sub : Same F H
  len : α.length = m.length
  nd : α.Nodup
  there : ∀ a ∈ α, ∃ o, H a = some o
  obj : ∀ (i : Nat) (a : Addr) (o : MO), α[i]? = some a → m[i]? = some o → MRep K F α H a o
/-- .. and the slots -/
structure Wd (K : PySem.W.Frag) (F : Hp) (α : List Addr) (ρ : List (Option Sl)) (m : List MO) (σ : L2.St) (H : Hp) : Prop where
  os : Objs K F α m H
  slot : ∀ (i : Nat) (r : Sl), ρ[i]? = some (some r) → ∃ v, σ[i]? = some (some v) ∧ RpS K F α v r
  slen : ρ.length = σ.length
/-- from one state to a later one -/
structure Nxt (F : Hp) (α : List Addr) (H : Hp) (F' : Hp) (α' : List Addr) (H' : Hp) : Prop where
  sub : Same F F'
  pre : α <+: α'
  fresh : ∀ a o, F' a = some o → F a = some o ∨ H a = none ∨ a ∈ α
  news : ∀ a ∈ α', a ∈ α ∨ H a = none
  keep : ∀ a o, H a = some o → a ∉ α → H' a = some o
section
variable {K : PySem.W.Frag} {F F1 F2 : Hp} {α α1 α2 : List Addr} {H H1 H2 : Hp}
theorem Nxt.refl : Nxt F α H F α H := ⟨Same.refl _, List.prefix_refl _, fun _ _ h => .inl h, fun _ h => .inl h, fun _ _ h _ => h⟩
theorem Nxt.trans (a : Nxt F α H F1 α1 H1) (b : Nxt F1 α1 H1 F2 α2 H2) : Nxt F α H F2 α2 H2 where
  sub := a.sub.trans b.sub
  pre := List.IsPrefix.trans a.pre b.pre
  fresh := fun x o h => by
    rcases b.fresh x o h with h | h | h
    · exact a.fresh x o h
    · by_cases hx : x ∈ α
      · exact .inr (.inr hx)
      · cases e : H x with
        | none => exact .inr (.inl rfl)
        | some u => rw [a.keep x u e hx] at h; cases h
    · rcases a.news x h with h | h
      · exact .inr (.inr h)
      · exact .inr (.inl h)
  news := fun x h => by
    rcases b.news x h with h | h
    · exact a.news x h
    · by_cases hx : x ∈ α
      · exact .inl hx
      · cases e : H x with
        | none => exact .inr rfl
        | some u => rw [a.keep x u e hx] at h; cases h
  keep := fun x o h hx => b.keep x o (a.keep x o h hx) fun h1 => by
    rcases a.news x h1 with z | z
    · exact hx z
    · rw [z] at h; cases h
end
section
variable {K : PySem.W.Frag} {F F' : Hp} {α : List Addr} {ρ : List (Option Sl)} {m : List MO} {σ : L2.St} {H H' : Hp} {p : Addr} {o : HO}
theorem same_new {H : Hp} {p : Addr} {o : HO} (h : H p = none) : Same H (upd H p o) := fun b u e => by
  rw [upd_ne (ne_of_none e h)]; exact e
theorem Objs.notin (h : Objs K F α m H) (np : H p = none) : p ∉ α := fun z => by
  obtain ⟨o, e⟩ := h.there p z
  rw [np] at e; cases e
theorem Objs.fnone (h : Objs K F α m H) (np : H p = none) : F p = none := Same.free h.sub np
theorem same_upd2 (h : Same F H) : Same (upd F p o) (upd H p o) := fun b u e => by
  by_cases z : b = p
  · subst z; rw [upd_same] at e ⊢; exact e
  · rw [upd_ne z] at e ⊢; exact h b u e
/-- a new thing that is never changed -/
theorem Objs.new (h : Objs K F α m H) (np : H p = none) : Objs K (upd F p o) α m (upd H p o) where
  sub := same_upd2 h.sub
  len := h.len
  nd := h.nd
  there := fun a ha => by
    obtain ⟨u, e⟩ := h.there a ha
    exact ⟨u, by rw [upd_ne (ne_of_none e np)]; exact e⟩
  obj := fun i a u h1 h2 => by
    obtain ⟨w, e⟩ := h.there a (List.mem_of_getElem? h1)
    have ne := ne_of_none e np
    exact (h.obj i a u h1 h2).next (same_new (h.fnone np)) (List.prefix_refl _) (fun o e => by rw [upd_ne ne]; exact e) (fun e => by rw [upd_ne ne]; exact e)
/-- a new thing that is nobody's -/
theorem Objs.keep (h : Objs K F α m H) (np : H p = none) : Objs K F α m (upd H p o) where
  sub := h.sub.trans (same_new np)
  len := h.len
  nd := h.nd
  there := fun a ha => by
    obtain ⟨u, e⟩ := h.there a ha
    exact ⟨u, by rw [upd_ne (ne_of_none e np)]; exact e⟩
  obj := fun i a u h1 h2 => (h.obj i a u h1 h2).next (Same.refl _) (List.prefix_refl _) (fun o e => by rw [upd_ne (ne_of_none e np)]; exact e) id
/-- a new list becomes an object of the store -/
theorem Objs.add {xs : List V} {ts : List T} (h : Objs K F α m H) (fp : F p = none) (na : p ∉ α) (e : H p = some (.lst xs)) (r : RpL K F xs ts) : Objs K F (α ++ [p]) (m ++ [.lst ts]) H where
  sub := h.sub
  len := by rw [List.length_append, List.length_append, h.len]; rfl
  nd := List.nodup_append.mpr ⟨h.nd, (by simp), fun a ha b hb z => by rw [List.mem_singleton.mp hb] at z; exact na (z ▸ ha)⟩
  there := fun a ha => (List.mem_append.mp ha).elim (h.there a) fun z => by rw [List.mem_singleton.mp z]; exact ⟨_, e⟩
  obj := fun i a u h1 h2 => by
    by_cases hi : i < α.length
    · rw [List.getElem?_append_left hi] at h1
      rw [List.getElem?_append_left (h.len ▸ hi)] at h2
      exact (h.obj i a u h1 h2).next (Same.refl _) (List.prefix_append _ _) (fun o e => e) id
    · rw [List.getElem?_append_right (Nat.le_of_not_lt hi)] at h1
      rw [List.getElem?_append_right (h.len ▸ Nat.le_of_not_lt hi), ← h.len] at h2
      cases z : i - α.length with
      | zero =>
        rw [z] at h1 h2
        cases h1
        cases h2
        exact ⟨fp, xs, e, r⟩
      | succ n => rw [z] at h1; cases h1
theorem Wd.of (h : Wd K F α ρ m σ H) {F2 : Hp} {α2 : List Addr} {m2 : List MO} {H2 : Hp} (e : Same F F2) (p : α <+: α2) (o : Objs K F2 α2 m2 H2) : Wd K F2 α2 ρ m2 σ H2 :=
  ⟨o, fun i r z => let ⟨v, h1, h2⟩ := h.slot i r z; ⟨v, h1, h2.next e p⟩, h.slen⟩
theorem Nxt.new (h : Objs K F α m H) (np : H p = none) : Nxt F α H (upd F p o) α (upd H p o) where
  sub := same_new (h.fnone np)
  pre := List.prefix_refl _
  fresh := fun a u e => by
    by_cases z : a = p
    · subst z; exact .inr (.inl np)
    · rw [upd_ne z] at e; exact .inl e
  news := fun a ha => .inl ha
  keep := fun a u e _ => by rw [upd_ne (ne_of_none e np)]; exact e
end
/-- a result is as the function says: what is wanted of a value, of an error -/
def Got {α β : Type} (K : PySem.W.Frag) (W : WX) (σ : L2.St) (ρ : List (Option Sl)) (F : Hp) (A : List Addr) (H : Hp) (Rel : Hp → List Addr → Hp → β → α → Prop) (r : M α) (Q : β → Hp → Prop) : Prop :=
  ∃ o m', r = some (o, m') ∧ match o with
    | .ok a => ∀ F' A' b H', Nxt F A H F' A' H' → Wd K F' A' ρ m' σ H' → Rel F' A' H' b a → Q b H'
    | .ex C fs => ∀ F' A' d vs H', Nxt F A H F' A' H' → Wd K F' A' ρ m' σ H' → RpF K F' vs fs → H' d = some (.xd vs) → W (.ref C) (some d) σ H'
section
variable {α β γ δ : Type} {K : PySem.W.Frag} {W : WX} {σ : L2.St} {ρ : List (Option Sl)} {F F1 : Hp} {A A1 : List Addr} {H H1 : Hp} {R1 : Hp → List Addr → Hp → β → α → Prop} {R2 : Hp → List Addr → Hp → δ → γ → Prop} {x : M α} {f : α → List MO → M γ} {Q : δ → Hp → Prop}
theorem Got.later {r : M γ} (h : Got K W σ ρ F A H R2 r Q) (n : Nxt F A H F1 A1 H1) : Got K W σ ρ F1 A1 H1 R2 r Q := by
  obtain ⟨o, m', e, h⟩ := h
  refine ⟨o, m', e, ?_⟩
  cases o with
  | ok a => exact fun F' A' b H' n' => h F' A' b H' (n.trans n')
  | ex C fs => exact fun F' A' d vs H' n' => h F' A' d vs H' (n.trans n')
theorem Got.bind (h : Got K W σ ρ F A H R2 (bM x f) Q) : Got K W σ ρ F A H R1 x fun b H1 => ∃ F1 A1 m1 a, Nxt F A H F1 A1 H1 ∧ Wd K F1 A1 ρ m1 σ H1 ∧ R1 F1 A1 H1 b a ∧ Got K W σ ρ F1 A1 H1 R2 (f a m1) Q := by
  match x, h with
  | none, h => obtain ⟨_, _, e, _⟩ := h; cases e
  | some (.ok a, m1), h => exact ⟨_, _, rfl, fun F1 A1 b H1 n w r => ⟨F1, A1, m1, a, n, w, r, Got.later h n⟩⟩
  | some (.ex C fs, m1), h =>
    obtain ⟨o, m', e, h⟩ := h
    cases e
    exact ⟨_, _, rfl, h⟩
theorem Got.mono {r : M γ} {Q' : δ → Hp → Prop} (h : Got K W σ ρ F A H R2 r Q) (k : ∀ b H', Q b H' → Q' b H') : Got K W σ ρ F A H R2 r Q' := by
  obtain ⟨o, m', e, h⟩ := h
  refine ⟨o, m', e, ?_⟩
  cases o with
  | ok a => exact fun F' A' b H' n w r => k _ _ (h F' A' b H' n w r)
  | ex C fs => exact h
/-- a value is there at once -/
theorem Got.now {c : γ} {m : List MO} {d : δ} (h : Got K W σ ρ F A H R2 (rM c m) Q) (w : Wd K F A ρ m σ H) (r : R2 F A H d c) : Q d H := by
  obtain ⟨o, m', e, h⟩ := h
  cases e
  exact h F A d H Nxt.refl w r
end
/-! ### the readings -/
abbrev VE := S → M Sl
abbrev VN := S → M (List T)
abbrev VT := S → M Bool
abbrev VA := S → M (List Sl)
/-- a value | a list that is nobody's yet | a test's answer | arguments -/
def rS (K : PySem.W.Frag) : Hp → List Addr → Hp → V → Sl → Prop := fun F A _ v s => RpS K F A v s
def rN (K : PySem.W.Frag) : Hp → List Addr → Hp → V → List T → Prop := fun F A H v ts => ∃ p xs, v = .ref p ∧ F p = none ∧ p ∉ A ∧ H p = some (.lst xs) ∧ RpL K F xs ts ∧ ts.length ≤ 1000000
def LE (K : PySem.W.Frag) (W : WX) (f : VE) : TE := fun σ H Q => ∃ F A ρ m, Wd K F A ρ m σ H ∧ Got K W σ ρ F A H (rS K) (f ⟨ρ, m⟩) Q
def LN (K : PySem.W.Frag) (W : WX) (f : VN) : TE := fun σ H Q => ∃ F A ρ m, Wd K F A ρ m σ H ∧ Got K W σ ρ F A H (fun F' A' H' v ts => rN K F' A' H' v ts ∧ ∀ p, v = .ref p → H p = none) (f ⟨ρ, m⟩) Q
def LT (K : PySem.W.Frag) (W : WX) (f : VT) : TT := fun σ H Q => ∃ F A ρ m, Wd K F A ρ m σ H ∧ Got K W σ ρ F A H (fun _ _ _ b c => b = c) (f ⟨ρ, m⟩) Q
def LA (K : PySem.W.Frag) (W : WX) (f : VA) : TA := fun σ H Q => ∃ F A ρ m, Wd K F A ρ m σ H ∧ Got K W σ ρ F A H (fun F' A' _ vs ss => RpSs K F' A' vs ss) (f ⟨ρ, m⟩) Q
end Vs
end
section
/-! Vs2: the rules by values: names, constants, operators, displays, tests. -/
namespace Vs
open PySem PySem.Spec PyProof.Rows L2
variable [WW]
theorem PE.imp {X : Cx} {e : Expr} {t t' : TE} (h : PE X e t) (k : ∀ σ H Q, t' σ H Q → t σ H Q) : PE X e t' := ⟨fun pins s σ H Q I z => h.run pins s σ H Q I (k _ _ _ z)⟩
theorem PT.imp {X : Cx} {e : Expr} {t t' : TT} (h : PT X e t) (k : ∀ σ H Q, t' σ H Q → t σ H Q) : PT X e t' := ⟨fun pins s σ H Q I z => h.run pins s σ H Q I (k _ _ _ z)⟩
theorem PW.imp {X : Cx} {e : Expr} {t t' : TT} (h : PW X e t) (k : ∀ σ H Q, t' σ H Q → t σ H Q) : PW X e t' := ⟨fun w pins s σ H Q I z => h.run w pins s σ H Q I (k _ _ _ z)⟩
theorem PA.imp {X : Cx} {es : List Expr} {t t' : TA} (h : PA X es t) (k : ∀ σ H Q, t' σ H Q → t σ H Q) : PA X es t' := ⟨fun pos pins s σ H Q I z => h.run pos pins s σ H Q I (k _ _ _ z)⟩
theorem PS.imp {X : Cx} {s : Stmt} {t t' : TS} (h : PS X s t) (k : ∀ D σ H, t' D σ H → t D σ H) : PS X s t' := ⟨fun pins s σ H D I z => h.run pins s σ H D I (k _ _ _ z)⟩
theorem PSs.imp {X : Cx} {s : List Stmt} {t t' : TS} (h : PSs X s t) (k : ∀ D σ H, t' D σ H → t D σ H) : PSs X s t' := ⟨fun pins s σ H D I z => h.run pins s σ H D I (k _ _ _ z)⟩
section
variable {K : PySem.W.Frag} {W : WX} {X : Cx}
/-! ### names, constants -/
def vVar (i : Nat) : VE := fun s => match s.ρ[i]? with
  | some (some r) => rM r s.m
  | _ => none
def vC (t : T) : VE := fun s => rM (.val t) s.m
theorem le_var {i : Nat} {σ : L2.St} {H : Hp} {Q : VK} (h : LE K W (vVar i) σ H Q) : tVar i σ H Q := by
  obtain ⟨F, A, ρ, m, w, g⟩ := h
  unfold vVar at g
  cases e : ρ[i]? with
  | none => simp only [e] at g; obtain ⟨_, _, z, _⟩ := g; cases z
  | some r =>
    cases r with
    | none => simp only [e] at g; obtain ⟨_, _, z, _⟩ := g; cases z
    | some r =>
      simp only [e] at g
      obtain ⟨v, h1, h2⟩ := w.slot i r e
      exact ⟨v, h1, g.now w h2⟩
theorem pe_vvar (i : Nat) {x : Str} {pos : Pos} (hN : X.N[i]? = some x := by rfl) (hv : Vis X.env.scope x := by first | exact Or.inl rfl | exact Or.inr (Or.inl rfl) | exact Or.inr (Or.inr rfl)) (hd : (x == ("__debug__" : Str)) = false := by decide) (hcd : (x == ("__classdict__" : Str)) = false := by decide) :
    PE X (.Name x pos) (LE X.K W (vVar i)) := PE.imp (pe_var hN hv hd hcd) fun _ _ _ => le_var
theorem le_c {v : V} {t : T} (r : ∀ F, Rp K F v t) {σ : L2.St} {H : Hp} {Q : VK} (h : LE K W (vC t) σ H Q) : tC v σ H Q := by
  obtain ⟨F, A, ρ, m, w, g⟩ := h
  exact g.now w (r F)
theorem pe_vint {i : Int} {j : Nat} {pos : Pos} : PE X (.Constant (.int i) j pos) (LE X.K W (vC (.int i))) := PE.imp pe_int fun _ _ _ => le_c fun _ => .int i
theorem pe_vstr {x : Str} {j : Nat} {pos : Pos} : PE X (.Constant (.str x) j pos) (LE X.K W (vC (.str x))) := PE.imp pe_str fun _ _ _ => le_c fun _ => .str x
theorem pe_vbl {b : Bool} {j : Nat} {pos : Pos} : PE X (.Constant (.bool b) j pos) (LE X.K W (vC (.bl b))) := PE.imp pe_bl fun _ _ _ => le_c fun _ => .bl b
theorem pe_vnon {j : Nat} {pos : Pos} : PE X (.Constant .none j pos) (LE X.K W (vC .non)) := PE.imp pe_non fun _ _ _ => le_c fun _ => .non
/-- a name of the module -/
theorem pe_vglob {x : Str} {v : V} {u : Value} {t : T} {pos : Pos} (hg : Gl X x) (hm : X.mg x = some u) (r : RelV v u) (rp : ∀ F, Rp X.K F v t) (hd : (x == ("__debug__" : Str)) = false := by decide) : PE X (.Name x pos) (LE X.K W (vC t)) := PE.imp (pe_glob hg hm r hd) fun _ _ _ => le_c rp
/-! ### lists that are nobody's -/
def vVal (f : VN) : VE := fun s => bM (f s) fun ts m => rM (.val (.lst ts)) m
def vOwn (f : VN) : VE := fun s => bM (f s) fun ts m => rM (.own m.length) (m ++ [.lst ts])
theorem le_val {f : VN} {σ : L2.St} {H : Hp} {Q : VK} (h : LE K W (vVal f) σ H Q) : LN K W f σ H Q := by
  obtain ⟨F, A, ρ, m, w, g⟩ := h
  refine ⟨F, A, ρ, m, w, ?_⟩
  unfold vVal at g
  match h : f ⟨ρ, m⟩, g with
  | none, g => obtain ⟨_, _, z, _⟩ := g; cases z
  | some (.ex C fs, m1), g =>
    obtain ⟨_, _, z, g⟩ := g
    cases z
    exact ⟨_, _, rfl, g⟩
  | some (.ok ts, m1), g =>
    obtain ⟨_, _, z, g⟩ := g
    cases z
    refine ⟨_, _, rfl, fun F1 A1 v H1 n w1 ⟨⟨p, xs, ev, fp, na, e, r, _⟩, np0⟩ => ?_⟩
    have np := np0 p ev
    subst ev
    have s1 : Same F1 (upd F1 p (.lst xs)) := same_new fp
    have s2 : Same (upd F1 p (.lst xs)) H1 := fun b u z => by
      by_cases q : b = p
      · subst q; rw [upd_same] at z; rw [e]; exact z
      · rw [upd_ne q] at z; exact w1.os.sub b u z
    refine g (upd F1 p (.lst xs)) A1 (.ref p) H1 ⟨n.sub.trans s1, n.pre, fun a u z => ?_, n.news, n.keep⟩ (w1.of s1 (List.prefix_refl _) ⟨s2, w1.os.len, w1.os.nd, w1.os.there, fun i a o h1 h2 => ?_⟩) (.lst upd_same (r.same s1))
    · by_cases q : a = p
      · subst q; exact .inr (.inl np)
      · rw [upd_ne q] at z; exact n.fresh a u z
    · have ne : a ≠ p := fun q => na (q ▸ List.mem_of_getElem? h1)
      exact (w1.os.obj i a o h1 h2).next s1 (List.prefix_refl _) (fun _ z => z) fun z => by rw [upd_ne ne]; exact z
theorem le_own {f : VN} {σ : L2.St} {H : Hp} {Q : VK} (h : LE K W (vOwn f) σ H Q) : LN K W f σ H Q := by
  obtain ⟨F, A, ρ, m, w, g⟩ := h
  refine ⟨F, A, ρ, m, w, ?_⟩
  unfold vOwn at g
  match h : f ⟨ρ, m⟩, g with
  | none, g => obtain ⟨_, _, z, _⟩ := g; cases z
  | some (.ex C fs, m1), g =>
    obtain ⟨_, _, z, g⟩ := g
    cases z
    exact ⟨_, _, rfl, g⟩
  | some (.ok ts, m1), g =>
    obtain ⟨_, _, z, g⟩ := g
    cases z
    refine ⟨_, _, rfl, fun F1 A1 v H1 n w1 ⟨⟨p, xs, ev, fp, na, e, r, _⟩, np0⟩ => ?_⟩
    have np := np0 p ev
    subst ev
    refine g F1 (A1 ++ [p]) (.ref p) H1 ⟨n.sub, List.IsPrefix.trans n.pre (List.prefix_append _ _), n.fresh, fun a ha => ?_, n.keep⟩ (w1.of (Same.refl _) (List.prefix_append _ _) (w1.os.add fp na e r)) ⟨p, ?_, rfl⟩
    · rcases List.mem_append.mp ha with z | z
      · exact n.news a z
      · rw [List.mem_singleton.mp z]; exact .inr np
    · rw [← w1.os.len, List.getElem?_append_right (Nat.le_refl _), Nat.sub_self]
      rfl
theorem pe_vval {e : Expr} {f : VN} (h : PE X e (LN K W f)) : PE X e (LE K W (vVal f)) := PE.imp h fun _ _ _ => le_val
theorem pe_vown {e : Expr} {f : VN} (h : PE X e (LN K W f)) : PE X e (LE K W (vOwn f)) := PE.imp h fun _ _ _ => le_own
/-! ### operators -/
def OpV (K : PySem.W.Frag) (r : R2) (g : Sl → Sl → List MO → M Sl) : Prop :=
  ∀ (W : WX) (F : Hp) (A : List Addr) (ρ : List (Option Sl)) (m : List MO) (σ : L2.St) (H : Hp) (x y : V) (a b : Sl) (Q : VK), Wd K F A ρ m σ H → RpS K F A x a → RpS K F A y b → Got K W σ ρ F A H (rS K) (g a b m) Q → r x y H Q
def vBin (g : Sl → Sl → List MO → M Sl) (fa fb : VE) : VE := fun s => bM (fa s) fun a m1 => bM (fb ⟨s.ρ, m1⟩) fun b m2 => g a b m2
theorem le_bin {r : R2} {g : Sl → Sl → List MO → M Sl} {fa fb : VE} (hv : OpV K r g) {σ : L2.St} {H : Hp} {Q : VK} (h : LE K W (vBin g fa fb) σ H Q) : tOp r (LE K W fa) (LE K W fb) σ H Q := by
  obtain ⟨F, A, ρ, m, w, got⟩ := h
  refine ⟨F, A, ρ, m, w, (Got.bind (R1 := rS K) got).mono fun x H1 z => ?_⟩
  obtain ⟨F1, A1, m1, a, n1, w1, ra, g1⟩ := z
  refine ⟨F1, A1, ρ, m1, w1, (Got.bind (R1 := rS K) g1).mono fun y H2 z => ?_⟩
  obtain ⟨F2, A2, m2, b, n2, w2, rb, g2⟩ := z
  exact hv W F2 A2 ρ m2 σ H2 x y a b Q w2 (ra.next n2.sub n2.pre) rb g2
theorem pe_vop {op : Operator} {r : R2} {g : Sl → Sl → List MO → M Sl} {a b : Expr} {fa fb : VE} {pos : Pos} (ho : OpR X (binaryOp op) r) (hv : OpV X.K r g) (ha : PE X a (LE X.K W fa)) (hb : PE X b (LE X.K W fb)) : PE X (.BinOp a op b pos) (LE X.K W (vBin g fa fb)) := PE.imp (pe_op ho ha hb) fun _ _ _ => le_bin hv
theorem pe_vcmp {op : CmpOp} {r : R2} {g : Sl → Sl → List MO → M Sl} {a b : Expr} {fa fb : VE} {pos : Pos} (ho : OpR X (compareOp op) r) (hv : OpV X.K r g) (ha : PE X a (LE X.K W fa)) (hb : PE X b (LE X.K W fb)) (hm : behindInMarks op b = false) : PE X (.Compare a [op] [b] pos) (LE X.K W (vBin g fa fb)) := PE.imp (pe_cmpR ho ha hb hm) fun _ _ _ => le_bin hv
/-- ints -/
def gInt (f : Int → Int → T) : Sl → Sl → List MO → M Sl
  | .val (.int i), .val (.int j), m => rM (.val (f i j)) m
  | _, _, _ => none
theorem ov_int {f : Int → Int → V} {f' : Int → Int → T} (hf : ∀ F i j, Rp K F (f i j) (f' i j)) : OpV K (rI0 f) (gInt f') := by
  intro W F A ρ m σ H x y a b Q w ra rb g
  unfold gInt at g
  split at g
  · rename_i m' i j
    cases ra
    cases rb
    exact ⟨i, j, rfl, rfl, g.now w (hf F i j)⟩
  · obtain ⟨_, _, z, _⟩ := g; cases z
end
end Vs
end
section
/-! Vs3: tests, statements, loops. -/
namespace Vs
open PySem PySem.Spec PyProof.Rows L2
variable [WW]
inductive Fl where
  | nx | bk | ct
  | rt (r : Sl)
  | ex (C : Addr) (fs : List (Str × T))
abbrev R := Option (Fl × S)
abbrev VS := S → R
section
variable {K : PySem.W.Frag} {W : WX} {X : Cx}
/-- a run is as the function says -/
def Ran (K : PySem.W.Frag) (W : WX) (F : Hp) (A : List Addr) (H : Hp) (D : Ends) (r : R) : Prop := ∃ fl s', r = some (fl, s') ∧ match fl with
  | .nx => ∀ F' A' σ' H', Nxt F A H F' A' H' → Wd K F' A' s'.ρ s'.m σ' H' → D.nx σ' H'
  | .bk => ∀ F' A' σ' H', Nxt F A H F' A' H' → Wd K F' A' s'.ρ s'.m σ' H' → D.bk σ' H'
  | .ct => ∀ F' A' σ' H', Nxt F A H F' A' H' → Wd K F' A' s'.ρ s'.m σ' H' → D.ct σ' H'
  | .rt r => ∀ F' A' σ' v H', Nxt F A H F' A' H' → Wd K F' A' s'.ρ s'.m σ' H' → RpS K F' A' v r → D.rt v H'
  | .ex C fs => ∀ F' A' σ' d vs H', Nxt F A H F' A' H' → Wd K F' A' s'.ρ s'.m σ' H' → RpF K F' vs fs → H' d = some (.xd vs) → W (.ref C) (some d) σ' H'
def LS (K : PySem.W.Frag) (W : WX) (g : VS) : TS := fun D σ H => ∃ F A ρ m, Wd K F A ρ m σ H ∧ Ran K W F A H D (g ⟨ρ, m⟩)
theorem Ran.later {F F1 : Hp} {A A1 : List Addr} {H H1 : Hp} {D : Ends} {r : R} (h : Ran K W F A H D r) (n : Nxt F A H F1 A1 H1) : Ran K W F1 A1 H1 D r := by
  obtain ⟨fl, s', e, h⟩ := h
  refine ⟨fl, s', e, ?_⟩
  cases fl with
  | nx => exact fun F' A' σ' H' n' => h F' A' σ' H' (n.trans n')
  | bk => exact fun F' A' σ' H' n' => h F' A' σ' H' (n.trans n')
  | ct => exact fun F' A' σ' H' n' => h F' A' σ' H' (n.trans n')
  | rt r => exact fun F' A' σ' v H' n' => h F' A' σ' v H' (n.trans n')
  | ex C fs => exact fun F' A' σ' d vs H' n' => h F' A' σ' d vs H' (n.trans n')
/-- what an expression brings, and what is done with it -/
def bS {α : Type} (ρ : List (Option Sl)) (x : M α) (f : α → List MO → R) : R := match x with
  | none => none
  | some (.ok a, m) => f a m
  | some (.ex C fs, m) => some (.ex C fs, ⟨ρ, m⟩)
theorem Ran.bS {α β : Type} {σ : L2.St} {ρ : List (Option Sl)} {F : Hp} {A : List Addr} {H : Hp} {D : Ends} {x : M α} {f : α → List MO → R} (R1 : Hp → List Addr → Hp → β → α → Prop) (h : Ran K W F A H D (bS ρ x f)) :
    Got K W σ ρ F A H R1 x fun b H1 => ∃ F1 A1 m1 a, Nxt F A H F1 A1 H1 ∧ Wd K F1 A1 ρ m1 σ H1 ∧ R1 F1 A1 H1 b a ∧ Ran K W F1 A1 H1 D (f a m1) := by
  match x, h with
  | none, h => obtain ⟨_, _, e, _⟩ := h; cases e
  | some (.ok a, m1), h => exact ⟨_, _, rfl, fun F1 A1 b H1 n w r => ⟨F1, A1, m1, a, n, w, r, Ran.later h n⟩⟩
  | some (.ex C fs, m1), h =>
    obtain ⟨fl, s', e, h⟩ := h
    cases e
    exact ⟨_, _, rfl, fun F' A' d vs H' n w => h F' A' σ d vs H' n w⟩
theorem Ran.nx {ρ : List (Option Sl)} {m : List MO} {F : Hp} {A : List Addr} {σ : L2.St} {H : Hp} {D : Ends} (h : Ran K W F A H D (some (.nx, ⟨ρ, m⟩))) (w : Wd K F A ρ m σ H) : D.nx σ H := by
  obtain ⟨fl, s', e, h⟩ := h
  cases e
  exact h F A σ H Nxt.refl w
theorem Ran.rt {ρ : List (Option Sl)} {m : List MO} {F : Hp} {A : List Addr} {σ : L2.St} {H : Hp} {D : Ends} {r : Sl} {v : V} (h : Ran K W F A H D (some (.rt r, ⟨ρ, m⟩))) (w : Wd K F A ρ m σ H) (rv : RpS K F A v r) : D.rt v H := by
  obtain ⟨fl, s', e, h⟩ := h
  cases e
  exact h F A σ v H Nxt.refl w rv
theorem Wd.set {F : Hp} {A : List Addr} {ρ : List (Option Sl)} {m : List MO} {σ : L2.St} {H : Hp} {i : Nat} {r : Sl} {v : V} (w : Wd K F A ρ m σ H) (rv : RpS K F A v r) : Wd K F A (ρ.set i (some r)) m (σ.set i (some v)) H := by
  refine ⟨w.os, fun j s z => ?_, by rw [List.length_set, List.length_set]; exact w.slen⟩
  by_cases e : i = j
  · subst e
    have hl : i < ρ.length := by
      have := (List.getElem?_eq_some_iff.mp z).1
      rw [List.length_set] at this
      exact this
    rw [List.getElem?_set_self hl] at z
    cases z
    exact ⟨v, by rw [List.getElem?_set_self (w.slen ▸ hl)], rv⟩
  · rw [List.getElem?_set_ne e] at z
    obtain ⟨u, h1, h2⟩ := w.slot j s z
    exact ⟨u, by rw [List.getElem?_set_ne e]; exact h1, h2⟩
/-! ### statements -/
def vSeq (f g : VS) : VS := fun s => match f s with
  | none => none
  | some (.nx, s') => g s'
  | some (fl, s') => some (fl, s')
theorem ls_seq {f g : VS} {D : Ends} {σ : L2.St} {H : Hp} (h : LS K W (vSeq f g) D σ H) : tSeq (LS K W f) (LS K W g) D σ H := by
  obtain ⟨F, A, ρ, m, w, r⟩ := h
  refine ⟨F, A, ρ, m, w, ?_⟩
  unfold vSeq at r
  match e : f ⟨ρ, m⟩, r with
  | none, r => obtain ⟨_, _, z, _⟩ := r; cases z
  | some (.nx, s'), r => exact ⟨_, _, rfl, fun F' A' σ' H' n w' => ⟨F', A', s'.ρ, s'.m, w', r.later n⟩⟩
  | some (.bk, s'), r => obtain ⟨_, _, z, r⟩ := r; cases z; exact ⟨_, _, rfl, r⟩
  | some (.ct, s'), r => obtain ⟨_, _, z, r⟩ := r; cases z; exact ⟨_, _, rfl, r⟩
  | some (.rt v, s'), r => obtain ⟨_, _, z, r⟩ := r; cases z; exact ⟨_, _, rfl, r⟩
  | some (.ex C fs, s'), r => obtain ⟨_, _, z, r⟩ := r; cases z; exact ⟨_, _, rfl, r⟩
theorem pss_vcons {st : Stmt} {rest : List Stmt} {f g : VS} (h1 : PS X st (LS K W f)) (h2 : PSs X rest (LS K W g)) : PSs X (st :: rest) (LS K W (vSeq f g)) := PSs.imp (pss_cons h1 h2) fun _ _ _ => ls_seq
theorem pss_vone {st : Stmt} {f : VS} (h : PS X st (LS K W f)) : PSs X [st] (LS K W f) := pss_one h
def vNext : VS := fun s => some (.nx, s)
theorem pss_vnil : PSs X [] (LS K W vNext) := PSs.imp pss_nil fun D σ H ⟨F, A, ρ, m, w, r⟩ => r.nx w
theorem ps_vpass {pos : Pos} : PS X (.Pass pos) (LS K W vNext) := PS.imp ps_pass fun D σ H ⟨F, A, ρ, m, w, r⟩ => r.nx w
def vBreak : VS := fun s => some (.bk, s)
def vCont : VS := fun s => some (.ct, s)
theorem ps_vbreak {pos : Pos} : PS X (.Break pos) (LS K W vBreak) := PS.imp ps_break fun D σ H ⟨F, A, ρ, m, w, r⟩ => by
  obtain ⟨_, _, e, h⟩ := r
  cases e
  exact h F A σ H Nxt.refl w
theorem ps_vcont {pos : Pos} : PS X (.Continue pos) (LS K W vCont) := PS.imp ps_continue fun D σ H ⟨F, A, ρ, m, w, r⟩ => by
  obtain ⟨_, _, e, h⟩ := r
  cases e
  exact h F A σ H Nxt.refl w
def vRet (f : VE) : VS := fun s => bS s.ρ (f s) fun r m => some (.rt r, ⟨s.ρ, m⟩)
theorem ps_vret {e : Expr} {f : VE} {pos : Pos} (he : PE X e (LE K W f)) : PS X (.Return (some e) pos) (LS K W (vRet f)) := PS.imp (ps_ret he) fun D σ H ⟨F, A, ρ, m, w, r⟩ =>
  ⟨F, A, ρ, m, w, (Ran.bS (rS K) r).mono fun b H1 ⟨F1, A1, m1, a, n, w1, ra, q⟩ => q.rt w1 ra⟩
def vSet (i : Nat) (f : VE) : VS := fun s => bS s.ρ (f s) fun r m => some (.nx, ⟨s.ρ.set i (some r), m⟩)
theorem ps_vset {i : Nat} {x : Str} {e : Expr} {f : VE} {pos pos' : Pos} (hN : X.N.Nodup) (hi : X.N[i]? = some x) (hx : Loc X.env.scope x) (he : PE X e (LE K W f)) (hs : swapsWith e (some (.Name x pos')) pos.line X.env = pure false := by rfl)
    (hf : X.fn x = true ∨ X.env.scope.names.lookup x = some .local := by first | exact .inl rfl | exact .inr rfl) : PS X (.Assign [.Name x pos'] e pos) (LS K W (vSet i f)) := PS.imp (ps_asg he (pg_name hN hi hx hf) (by exact hs) (by rfl)) fun D σ H ⟨F, A, ρ, m, w, r⟩ =>
  ⟨F, A, ρ, m, w, (Ran.bS (rS K) r).mono fun b H1 ⟨F1, A1, m1, a, n, w1, ra, q⟩ => q.nx (w1.set ra)⟩
def vDrop (f : VE) : VS := fun s => bS s.ρ (f s) fun _ m => some (.nx, ⟨s.ρ, m⟩)
theorem ps_vexpr {e : Expr} {f : VE} {pos : Pos} (he : PE X e (LE K W f)) (hs : swapsWith e none pos.line X.env = pure false := by rfl) : PS X (.Expr e pos) (LS K W (vDrop f)) := PS.imp (ps_expr he hs) fun D σ H ⟨F, A, ρ, m, w, r⟩ =>
  ⟨F, A, ρ, m, w, (Ran.bS (rS K) r).mono fun b H1 ⟨F1, A1, m1, a, n, w1, ra, q⟩ => q.nx w1⟩
def vIf (c : VT) (f g : VS) : VS := fun s => bS s.ρ (c s) fun b m => if b = true then f ⟨s.ρ, m⟩ else g ⟨s.ρ, m⟩
theorem ps_vif {c : Expr} {a b : List Stmt} {fc : VT} {f g : VS} {pos : Pos} (hc : PT X c (LT K W fc)) (ha : PSs X a (LS K W f)) (hb : PSs X b (LS K W g)) : PS X (.If c a b pos) (LS K W (vIf fc f g)) := PS.imp (ps_if hc ha hb) fun D σ H ⟨F, A, ρ, m, w, r⟩ =>
  ⟨F, A, ρ, m, w, (Ran.bS (fun _ _ _ b c => b = c) r).mono fun b H1 ⟨F1, A1, m1, a, n, w1, ra, q⟩ => by
    cases ra
    by_cases e : b = true
    · rw [if_pos e] at q ⊢; exact ⟨F1, A1, ρ, m1, w1, q⟩
    · rw [if_neg e] at q ⊢; exact ⟨F1, A1, ρ, m1, w1, q⟩⟩
/-! ### tests -/
def vTest (f : VE) : VT := fun s => bM (f s) fun r m => match r with
  | .val (.bl b) => rM b m
  | _ => none
theorem lt_test {f : VE} {σ : L2.St} {H : Hp} {Q : Bool → Hp → Prop} (h : LT K W (vTest f) σ H Q) : tB (LE K W f) σ H Q := by
  obtain ⟨F, A, ρ, m, w, g⟩ := h
  refine ⟨F, A, ρ, m, w, (Got.bind (R1 := rS K) g).mono fun x H1 ⟨F1, A1, m1, a, n, w1, ra, q⟩ => ?_⟩
  split at q
  · rename_i b
    cases ra
    exact ⟨b, rfl, q.now w1 rfl⟩
  · obtain ⟨_, _, z, _⟩ := q; cases z
theorem pt_vval {e : Expr} {f : VE} (h : PE X e (LE K W f)) (he : ∀ whole, isTrue e X.env whole = (do let v ← whole; standAt e.pos; holding [v] (truthy v)) := by intro _; rfl) : PT X e (LT K W (vTest f)) := PT.imp (pt_val h he) fun _ _ _ => lt_test
theorem pt_vcmp {op : CmpOp} {r : R2} {g : Sl → Sl → List MO → M Sl} {a b : Expr} {fa fb : VE} {pos : Pos} (ho : OpR X (compareOp op) r) (hv : OpV X.K r g) (ha : PE X a (LE X.K W fa)) (hb : PE X b (LE X.K W fb)) (hm : behindInMarks op b = false) : PT X (.Compare a [op] [b] pos) (LT X.K W (vTest (vBin g fa fb))) := by
  refine PT.imp (pt_cmpR ho ha hb hm) fun σ H Q h => ?_
  obtain ⟨F, A, ρ, m, w, g⟩ := lt_test h
  obtain ⟨F', A', ρ', m', w', g'⟩ := (show LE X.K W (vBin _ fa fb) σ H _ from ⟨F, A, ρ, m, w, g⟩)
  exact le_bin hv ⟨F', A', ρ', m', w', g'⟩
def vNot (f : VT) : VT := fun s => bM (f s) fun b m => rM (!b) m
theorem pt_vnot {a : Expr} {f : VT} {pos : Pos} (h : PT X a (LT K W f)) : PT X (.UnaryOp .Not a pos) (LT K W (vNot f)) := PT.imp (pt_not h) fun σ H Q ⟨F, A, ρ, m, w, g⟩ =>
  ⟨F, A, ρ, m, w, (Got.bind (R1 := fun _ _ _ b c => b = c) g).mono fun x H1 ⟨F1, A1, m1, a, n, w1, ra, q⟩ => by cases ra; exact q.now w1 rfl⟩
def vAnd (f g : VT) : VT := fun s => bM (f s) fun b m => if b = true then g ⟨s.ρ, m⟩ else rM false m
def vOr (f g : VT) : VT := fun s => bM (f s) fun b m => if b = true then rM true m else g ⟨s.ρ, m⟩
theorem pw_vand {a b : Expr} {rest : List Expr} {f g : VT} {pos : Pos} (ha : PT X a (LT K W f)) (hb : PW X (.BoolOp .And (b :: rest) pos) (LT K W g)) : PW X (.BoolOp .And (a :: b :: rest) pos) (LT K W (vAnd f g)) := PW.imp (pw_and ha hb) fun σ H Q ⟨F, A, ρ, m, w, g⟩ =>
  ⟨F, A, ρ, m, w, (Got.bind (R1 := fun _ _ _ b c => b = c) g).mono fun x H1 ⟨F1, A1, m1, a, n, w1, ra, q⟩ => by
    cases ra
    by_cases e : x = true
    · rw [if_pos e] at q ⊢; exact ⟨F1, A1, ρ, m1, w1, q⟩
    · rw [if_neg e] at q ⊢; exact q.now w1 rfl⟩
theorem pw_vor {a b : Expr} {rest : List Expr} {f g : VT} {pos : Pos} (ha : PT X a (LT K W f)) (hb : PW X (.BoolOp .Or (b :: rest) pos) (LT K W g)) : PW X (.BoolOp .Or (a :: b :: rest) pos) (LT K W (vOr f g)) := PW.imp (pw_or ha hb) fun σ H Q ⟨F, A, ρ, m, w, g⟩ =>
  ⟨F, A, ρ, m, w, (Got.bind (R1 := fun _ _ _ b c => b = c) g).mono fun x H1 ⟨F1, A1, m1, a, n, w1, ra, q⟩ => by
    cases ra
    by_cases e : x = true
    · rw [if_pos e] at q ⊢; exact q.now w1 rfl
    · rw [if_neg e] at q ⊢; exact ⟨F1, A1, ρ, m1, w1, q⟩⟩
theorem pw_vand1 {a : Expr} {f : VT} {pos : Pos} (ha : PT X a (LT K W f)) : PW X (.BoolOp .And [a] pos) (LT K W f) := pw_and1 ha
theorem pw_vor1 {a : Expr} {f : VT} {pos : Pos} (ha : PT X a (LT K W f)) : PW X (.BoolOp .Or [a] pos) (LT K W f) := pw_or1 ha
def vIfE (c : VT) (f g : VE) : VE := fun s => bM (c s) fun b m => if b = true then f ⟨s.ρ, m⟩ else g ⟨s.ρ, m⟩
theorem pe_vifE {c a b : Expr} {fc : VT} {f g : VE} {pos : Pos} (hc : PT X c (LT K W fc)) (ha : PE X a (LE K W f)) (hb : PE X b (LE K W g)) : PE X (.IfExp c a b pos) (LE K W (vIfE fc f g)) := PE.imp (pe_ifExp hc ha hb) fun σ H Q ⟨F, A, ρ, m, w, g⟩ =>
  ⟨F, A, ρ, m, w, (Got.bind (R1 := fun _ _ _ b c => b = c) g).mono fun x H1 ⟨F1, A1, m1, a, n, w1, ra, q⟩ => by
    cases ra
    by_cases e : x = true
    · rw [if_pos e] at q ⊢; exact ⟨F1, A1, ρ, m1, w1, q⟩
    · rw [if_neg e] at q ⊢; exact ⟨F1, A1, ρ, m1, w1, q⟩⟩
end
end Vs
end
section
/-! Vs4: what is walked, for, while, comprehensions. -/
namespace Vs
open PySem PySem.Spec PyProof.Rows L2
variable [WW]
/-! ### a list or a tuple, walked -/
def iSeq (K : PySem.W.Frag) (tl : TE) : TI := fun σ H R => tl σ H fun x H1 => ∃ a, x = .ref a ∧ (((∃ xs, SqL K H1 a xs) ∧ R (Itl K a) H1) ∨ ((∃ xs, SqT K H1 a xs) ∧ R (Itt K a) H1))
theorem pi_seq {X : Cx} {tg l : Expr} {tl : TE} (hl : PE X l tl) : PI X tg l (iSeq X.K tl) := by
  constructor
  intro pins s σ H R I h
  refine thn (hl.run pins s σ H _ I h) fun v s1 z => ?_
  rcases z with ⟨x, G, J, rx, a, rfl, z⟩
  cases rx
  have up : ∀ {o : Obj} (b : Addr) (u : Obj), s1.heap.get? b = some u → (s1.heap.push o).get? b = some u := fun b u e => Heap.get?_push_of_some _ e
  have fp : ∀ b ∈ [s1.heap.objs.size], FpOk X pins G b := fun b hb => by
    have e : b = s1.heap.objs.size := by simpa using hb
    rw [e]
    exact J.fpOk (Nat.le_refl _) (J.hok.fresh (Nat.le_refl _))
  rcases z with ⟨⟨xs, hq⟩, q⟩ | ⟨⟨xs, hq⟩, q⟩
  · rcases J.list hq with ⟨its, rv, p, _⟩
    exact wpAny_pyIter_list p.isList ⟨_, [s1.heap.objs.size], _, _, G, rfl, J.kept (t' := s1.toks) up, turn_list a _, ⟨_, Heap.get?_push_size _ rfl, rfl, rfl⟩, fp, q⟩
  · rcases J.tuple hq with ⟨its, rv, p, _⟩
    exact wpAny_pyIter_tuple (show s1.heap.IsTuple a its.toArray from p) ⟨_, [s1.heap.objs.size], _, _, G, rfl, J.kept (t' := s1.toks) up, turn_tuple a _, ⟨_, Heap.get?_push_size _ rfl, rfl, rfl⟩, fp, q⟩
section
variable {K : PySem.W.Frag} {W : WX} {X : Cx}
theorem PI.imp {tg e : Expr} {t t' : TI} (h : PI X tg e t) (k : ∀ σ H R, t' σ H R → t σ H R) : PI X tg e t' := ⟨fun pins s σ H R I z => h.run pins s σ H R I (k _ _ _ z)⟩
theorem PG.imp {tg : Expr} {t t' : TG} (h : PG X tg t) (k : ∀ v σ H Q, t' v σ H Q → t v σ H Q) : PG X tg t' := ⟨fun v u pins s σ H Q I r z => h.run v u pins s σ H Q I r (k _ _ _ _ z)⟩
/-- J walks the items, from any later state -/
def Walks (K : PySem.W.Frag) (F : Hp) (A : List Addr) (H : Hp) (J : It) (items : List T) : Prop :=
  ∀ F' A' H' m, Same F F' → Objs K F' A' m H' → ∀ i,
    (∀ t, items[i]? = some t → J.go i H' ∧ ∀ x H'', J.yld i H' x H'' → ∃ F'', Nxt F' A' H' F'' A' H'' ∧ Objs K F'' A' m H'' ∧ Rp K F'' x t) ∧ (items.length ≤ i → J.stop i H')
abbrev VI := S → M (List T)
def LI (K : PySem.W.Frag) (W : WX) (it : VI) : TI := fun σ H R => ∃ F A ρ m, Wd K F A ρ m σ H ∧ Got K W σ ρ F A H (fun F' A' H' (J : It) ts => Walks K F' A' H' J ts) (it ⟨ρ, m⟩) R
theorem walk_list {F : Hp} {A : List Addr} {H : Hp} {a : Addr} {xs : List V} {ts : List T} (s : Same F H) (h : SqL K F a xs) (r : RpL K F xs ts) : Walks K F A H (Itl K a) ts := fun F' A' H' m n o i => by
  have h' : SqL K H' a xs := o.sub.seq (n.seq h)
  refine ⟨fun t e => ?_, fun hi => ⟨xs, h', by rw [r.length]; exact hi⟩⟩
  obtain ⟨v, ev, rv⟩ := r.get e
  refine ⟨⟨xs, v, h', ev⟩, fun x H'' ⟨eH, y⟩ => ?_⟩
  subst eH
  have := y xs h'
  rw [ev] at this
  cases this
  exact ⟨F', Nxt.refl, o, rv.same n⟩
theorem walk_tup {F : Hp} {A : List Addr} {H : Hp} {a : Addr} {xs : List V} {ts : List T} (s : Same F H) (h : SqT K F a xs) (r : RpL K F xs ts) : Walks K F A H (Itt K a) ts := fun F' A' H' m n o i => by
  have h' : SqT K H' a xs := sqT_same o.sub (sqT_same n h)
  refine ⟨fun t e => ?_, fun hi => ⟨xs, h', by rw [r.length]; exact hi⟩⟩
  obtain ⟨v, ev, rv⟩ := r.get e
  refine ⟨⟨xs, v, h', ev⟩, fun x H'' ⟨eH, y⟩ => ?_⟩
  subst eH
  have := y xs h'
  rw [ev] at this
  cases this
  exact ⟨F', Nxt.refl, o, rv.same n⟩
def gSeq : Sl → List MO → M (List T)
  | .val (.lst ts), m => rM ts m
  | .val (.tup ts), m => rM ts m
  | .val (.seq ts), m => rM ts m
  | _, _ => none
/-- a list or a tuple that is never changed -/
def vItems (f : VE) : VI := fun s => bM (f s) gSeq
theorem pi_vseq {tg e : Expr} {f : VE} (he : PE X e (LE X.K W f)) : PI X tg e (LI X.K W (vItems f)) := PI.imp (pi_seq he) fun σ H R ⟨F, A, ρ, m, w, g⟩ =>
  ⟨F, A, ρ, m, w, (Got.bind (R1 := rS X.K) g).mono fun x H1 ⟨F1, A1, m1, a, n, w1, ra, q⟩ => by
    unfold gSeq at q
    split at q
    · cases ra with
      | lst h r => exact ⟨_, rfl, .inl ⟨⟨_, SqL.of (w1.os.sub _ _ h)⟩, q.now w1 (walk_list w1.os.sub (SqL.of h) r)⟩⟩
    · cases ra with
      | tup h r => exact ⟨_, rfl, .inr ⟨⟨_, sqT_same w1.os.sub h⟩, q.now w1 (walk_tup w1.os.sub h r)⟩⟩
    · cases ra with
      | seq h r => exact ⟨_, rfl, .inl ⟨⟨_, w1.os.sub.seq h⟩, q.now w1 (walk_list w1.os.sub h r)⟩⟩
    · obtain ⟨_, _, z, _⟩ := q; cases z⟩
/-- range(n) -/
def intsT (lo : Int) : Nat → List T
  | 0 => []
  | n + 1 => .int lo :: intsT (lo + 1) n
theorem intsT_len (lo : Int) : ∀ n, (intsT lo n).length = n
  | 0 => rfl
  | n + 1 => by show (intsT (lo + 1) n).length + 1 = _; rw [intsT_len (lo + 1) n]
theorem intsT_get (lo : Int) : ∀ n i, i < n → (intsT lo n)[i]? = some (.int (lo + (i : Nat)))
  | 0, i, h => absurd h (Nat.not_lt_zero i)
  | n + 1, 0, _ => by show some (T.int lo) = _; rw [Int.natCast_zero, Int.add_zero]
  | n + 1, i + 1, h => by
    show (intsT (lo + 1) n)[i]? = _
    rw [intsT_get (lo + 1) n i (Nat.lt_of_succ_lt_succ h), Int.natCast_succ, Int.add_assoc, Int.add_comm 1]
theorem walk_range {F : Hp} {A : List Addr} {H : Hp} {lo : Int} {n : Nat} : Walks K F A H (Itr lo n) (intsT lo n) := fun F' A' H' m nx o i => by
  refine ⟨fun t e => ?_, fun hi => by rw [intsT_len] at hi; exact hi⟩
  have hi : i < n := by
    have := (List.getElem?_eq_some_iff.mp e).1
    rw [intsT_len] at this
    exact this
  rw [intsT_get lo n i hi] at e
  cases e
  refine ⟨hi, fun x H'' ⟨eH, y⟩ => ?_⟩
  subst eH y
  exact ⟨F', Nxt.refl, o, .int _⟩
def gRange : Sl → List MO → M (List T)
  | .val (.int i), m => if -1000000 ≤ i ∧ i ≤ 1000000 then rM (intsT 0 i.toNat) m else none
  | _, _ => none
def vRange (f : VE) : VI := fun s => bM (f s) gRange
def gRange2 : Sl → Sl → List MO → M (List T)
  | .val (.int i), .val (.int j), m => if (-1000000 ≤ i ∧ i ≤ 1000000) ∧ -1000000 ≤ j ∧ j ≤ 1000000 then rM (intsT i (j - i).toNat) m else none
  | _, _, _ => none
def vRange2 (f g : VE) : VI := fun s => bM (f s) fun a m1 => bM (g ⟨s.ρ, m1⟩) fun b m2 => gRange2 a b m2
theorem pi_vrange {tg e : Expr} {f : VE} {p pos : Pos} (hg : Gl X "range") (hm : X.mg "range" = none) (he : PE X e (LE X.K W f)) (hs : starEach [e] X.env = [(false, eval e X.env)] := by rfl) : PI X tg (.Call (.Name "range" p) [e] [] pos) (LI X.K W (vRange f)) := PI.imp (pi_range1 hg hm (pa_cons he pa_nil (by rw [hs]; rfl)) hs) fun σ H R ⟨F, A, ρ, m, w, g⟩ =>
  ⟨F, A, ρ, m, w, (Got.bind (R1 := rS X.K) g).mono fun x H1 ⟨F1, A1, m1, a, n, w1, ra, q⟩ => by
    unfold gRange at q
    split at q
    · rename_i m' i
      split at q
      · rename_i h
        cases ra
        exact ⟨i, rfl, by omega, by omega, q.now w1 walk_range⟩
      · obtain ⟨_, _, z, _⟩ := q; cases z
    · obtain ⟨_, _, z, _⟩ := q; cases z⟩
/-! ### targets -/
abbrev VG := T → List (Option Sl) → Option (List (Option Sl))
/-- slots but those in L are as they were -/
def Sam (L : List Nat) (σ σ' : L2.St) : Prop := σ'.length = σ.length ∧ ∀ j, j ∉ L → σ'[j]? = σ[j]?
theorem Sam.refl {L : List Nat} {σ : L2.St} : Sam L σ σ := ⟨rfl, fun _ _ => rfl⟩
def LG (K : PySem.W.Frag) (L : List Nat) (g : VG) : TG := fun v σ H Q => ∃ F A ρ m t ρ', Wd K F A ρ m σ H ∧ Rp K F v t ∧ g t ρ = some ρ' ∧ ∀ σ', Wd K F A ρ' m σ' H → Sam L σ σ' → Q σ' H
def vgName (i : Nat) : VG := fun t ρ => some (ρ.set i (some (.val t)))
theorem pg_vname {i : Nat} {x : Str} {pos : Pos} (hN : X.N.Nodup) (hi : X.N[i]? = some x) (hx : Loc X.env.scope x) (hf : X.fn x = true ∨ X.env.scope.names.lookup x = some .local := by first | exact .inl rfl | exact .inr rfl) : PG X (.Name x pos) (LG X.K [i] (vgName i)) :=
  PG.imp (pg_name hN hi hx hf) fun v σ H Q ⟨F, A, ρ, m, t, ρ', w, r, e, k⟩ => by
    cases e
    refine k _ (w.set (r := .val t) r) ⟨List.length_set, fun j hj => ?_⟩
    rw [List.getElem?_set_ne fun z => hj (by rw [z]; simp)]
/-! ### for -/
def vLoop (g : VG) (b : VS) : List T → S → R
  | [], s => some (.nx, s)
  | t :: r, s => match g t s.ρ with
    | none => none
    | some ρ1 => match b ⟨ρ1, s.m⟩ with
      | some (.nx, s2) => vLoop g b r s2
      | some (.ct, s2) => vLoop g b r s2
      | some (.bk, s2) => some (.nx, s2)
      | x => x
def vFor (it : VI) (g : VG) (b : VS) : VS := fun s => bS s.ρ (it s) fun ts m => vLoop g b ts ⟨s.ρ, m⟩
theorem ps_vfor {tg iter : Expr} {body : List Stmt} {it : VI} {g : VG} {b : VS} {pos : Pos} (hp : PassesOwn (model X.prog X.w) X.A X.env X.xe) (hc : X.calm = true) (hi : PI X tg iter (LI X.K W it)) {L : List Nat} (hg : PG X tg (LG X.K L g)) (hb : PSs X body (LS X.K W b)) (hs : ∀ x, foldedSetIterable iter X.env x = pure x := by intro _; rfl) :
    PS X (.For tg iter body [] pos) (LS X.K W (vFor it g b)) := PS.imp (ps_for hp hc hi hg hb hs) fun D σ H ⟨F, A, ρ, m, w, r⟩ =>
  ⟨F, A, ρ, m, w, (Ran.bS (fun F' A' H' (J : It) ts => Walks X.K F' A' H' J ts) r).mono fun J H1 ⟨F1, A1, m1, ts, n1, w1, wk, q⟩ => by
    refine ⟨fun i k τ G => ∃ F' A' ρ' m', Nxt F1 A1 H1 F' A' G ∧ Wd X.K F' A' ρ' m' τ G ∧ i ≤ ts.length ∧ k = ts.length - i ∧ Ran X.K W F' A' G D (vLoop g b (ts.drop i) ⟨ρ', m'⟩), ⟨ts.length, F1, A1, ρ, m1, Nxt.refl, w1, Nat.zero_le _, rfl, q⟩, ?_⟩
    rintro i k τ G ⟨F', A', ρ', m', n', w', hi, rfl, q'⟩
    by_cases e : i < ts.length
    · have et : ts[i]? = some ts[i] := List.getElem?_eq_getElem e
      have ed : ts.drop i = ts[i] :: ts.drop (i + 1) := List.drop_eq_getElem_cons e
      obtain ⟨go, yl⟩ := (wk F' A' G m' n'.sub w'.os i).1 _ et
      refine .inr ⟨go, fun τ2 G2 => ∃ F2 A2 ρ2 m2, Nxt F1 A1 H1 F2 A2 G2 ∧ Wd X.K F2 A2 ρ2 m2 τ2 G2 ∧ Ran X.K W F2 A2 G2 D (vLoop g b (ts.drop (i + 1)) ⟨ρ2, m2⟩), fun τ2 G2 ⟨F2, A2, ρ2, m2, n2, w2, q2⟩ => ⟨ts.length - (i + 1), by omega, F2, A2, ρ2, m2, n2, w2, e, rfl, q2⟩, fun x G3 y => ?_⟩
      obtain ⟨F3, n3, o3, rx⟩ := yl x G3 y
      rw [ed] at q'
      unfold vLoop at q'
      have w3 : Wd X.K F3 A' ρ' m' τ G3 := w'.of n3.sub (List.prefix_refl _) o3
      match eg : g ts[i] ρ', q' with
      | none, q' => obtain ⟨_, _, z, _⟩ := q'; cases z
      | some ρ1, q' =>
        refine ⟨F3, A', ρ', m', _, ρ1, w3, rx, eg, fun σ' w4 _ => ?_⟩
        refine ⟨F3, A', ρ1, m', w4, ?_⟩
        have q3 := q'.later n3
        match eb : b ⟨ρ1, m'⟩, q3 with
        | none, q3 => obtain ⟨_, _, z, _⟩ := q3; simp only [eb] at z; cases z
        | some (.nx, s2), q3 => exact ⟨_, _, rfl, fun F5 A5 σ5 H5 n5 w5 => ⟨F5, A5, s2.ρ, s2.m, n'.trans (n3.trans n5), w5, by simp only [eb] at q3; exact q3.later n5⟩⟩
        | some (.ct, s2), q3 => exact ⟨_, _, rfl, fun F5 A5 σ5 H5 n5 w5 => ⟨F5, A5, s2.ρ, s2.m, n'.trans (n3.trans n5), w5, by simp only [eb] at q3; exact q3.later n5⟩⟩
        | some (.bk, s2), q3 =>
          simp only [eb] at q3
          obtain ⟨_, _, z, h⟩ := q3
          cases z
          exact ⟨_, _, rfl, h⟩
        | some (.rt r, s2), q3 =>
          simp only [eb] at q3
          obtain ⟨_, _, z, h⟩ := q3
          cases z
          exact ⟨_, _, rfl, h⟩
        | some (.ex C fs, s2), q3 =>
          simp only [eb] at q3
          obtain ⟨_, _, z, h⟩ := q3
          cases z
          exact ⟨_, _, rfl, h⟩
    · have ei : i = ts.length := by omega
      refine .inl ⟨(wk F' A' G m' n'.sub w'.os i).2 (by omega), ?_⟩
      rw [List.drop_eq_nil_of_le (by omega)] at q'
      exact q'.nx w'⟩
end
end Vs
end
section
/-! Vs5: arguments, displays, the methods of lists, what is frozen, while. -/
namespace Vs
open PySem PySem.Spec PyProof.Rows L2
variable [WW]
section
variable {α γ δ : Type} {K : PySem.W.Frag} {W : WX} {X : Cx}
theorem Got.fin {σ : L2.St} {ρ : List (Option Sl)} {F F1 : Hp} {A A1 : List Addr} {H H1 : Hp} {R2 : Hp → List Addr → Hp → δ → γ → Prop} {c : γ} {m : List MO} {d : δ} {Q : δ → Hp → Prop} (h : Got K W σ ρ F A H R2 (rM c m) Q) (n : Nxt F A H F1 A1 H1) (w : Wd K F1 A1 ρ m σ H1) (r : R2 F1 A1 H1 d c) : Q d H1 := (Got.later h n).now w r
theorem Nxt.back {F F1 : Hp} {A A1 : List Addr} {H H1 : Hp} {m : List MO} {p : Addr} (n : Nxt F A H F1 A1 H1) (o : Objs K F1 A1 m H1) (np : H1 p = none) : H p = none := by
  cases e : H p with
  | none => rfl
  | some u =>
    by_cases hp : p ∈ A
    · obtain ⟨β, hb⟩ := n.pre
      obtain ⟨u, z⟩ := o.there p (by rw [← hb]; exact List.mem_append_left _ hp)
      rw [np] at z; cases z
    · rw [n.keep p u e hp] at np; cases np
/-! ### arguments, displays -/
def vNil : VA := fun s => rM [] s.m
def vCons (f : VE) (g : VA) : VA := fun s => bM (f s) fun a m1 => bM (g ⟨s.ρ, m1⟩) fun as m2 => rM (a :: as) m2
theorem pa_vnil : PA X [] (LA K W vNil) := PA.imp pa_nil fun σ H Q ⟨F, A, ρ, m, w, g⟩ => g.now w .nil
theorem pa_vcons {e : Expr} {es : List Expr} {f : VE} {g : VA} (he : PE X e (LE K W f)) (hr : PA X es (LA K W g)) (hs : starEach (e :: es) X.env = (false, eval e X.env) :: starEach es X.env := by rfl) : PA X (e :: es) (LA K W (vCons f g)) := PA.imp (pa_cons he hr hs) fun σ H Q ⟨F, A, ρ, m, w, g⟩ =>
  ⟨F, A, ρ, m, w, (Got.bind (R1 := rS K) g).mono fun x H1 ⟨F1, A1, m1, a, n1, w1, ra, g1⟩ =>
    ⟨F1, A1, ρ, m1, w1, (Got.bind (R1 := fun F' A' _ vs ss => RpSs K F' A' vs ss) g1).mono fun xs H2 ⟨F2, A2, m2, as, n2, w2, rs, g2⟩ => g2.now w2 (.cons (ra.next n2.sub n2.pre) rs)⟩⟩
def vals : List Sl → Option (List T)
  | [] => some []
  | .val t :: r => (vals r).map (t :: ·)
  | .own _ :: _ => none
theorem vals_rp {F : Hp} {A : List Addr} : ∀ {vs : List V} {ss : List Sl} {ts : List T}, RpSs K F A vs ss → vals ss = some ts → RpL K F vs ts
  | _, _, _, .nil, e => by cases e; exact .nil
  | _, .val t :: r, ts, .cons h q, e => by
    unfold vals at e
    cases z : vals r with
    | none => rw [z] at e; cases e
    | some us => rw [z] at e; cases e; exact .cons h (vals_rp q z)
  | _, .own i :: r, ts, .cons h q, e => by cases e
abbrev SZ : Nat := 1000000
theorem sz_le {n : Nat} (h : n ≤ SZ) : n ≤ sizeLine := Nat.le_trans h (by decide)
theorem sz_lt {n : Nat} (h : n < SZ) : n < sizeLine := Nat.lt_of_lt_of_le h (by decide)
def gSeqD (c : List T → T) (ss : List Sl) (m : List MO) : M Sl := match vals ss with
  | some ts => if ts.length ≤ SZ then rM (.val (c ts)) m else none
  | none => none
def vTup (f : VA) : VE := fun s => bM (f s) (gSeqD .tup)
theorem none_got {σ : L2.St} {ρ : List (Option Sl)} {F : Hp} {A : List Addr} {H : Hp} {R2 : Hp → List Addr → Hp → δ → γ → Prop} {Q : δ → Hp → Prop} {P : Prop} (h : Got K W σ ρ F A H R2 (none : M γ) Q) : P := by
  obtain ⟨_, _, z, _⟩ := h; cases z
theorem pe_vtup {es : List Expr} {k : Nat} {f : VA} {pos : Pos} (h : PA X es (LA K W f)) : PE X (.Tuple es k pos) (LE K W (vTup f)) := PE.imp (pe_tup h) fun σ H Q ⟨F, A, ρ, m, w, g⟩ =>
  ⟨F, A, ρ, m, w, (Got.bind (R1 := fun F' A' _ vs ss => RpSs K F' A' vs ss) g).mono fun xs H1 ⟨F1, A1, m1, ss, n1, w1, rs, q⟩ => by
    unfold gSeqD at q
    cases e : vals ss with
    | none => rw [e] at q; exact none_got q
    | some ts =>
      simp only [e] at q
      have r := vals_rp rs e
      by_cases z : ts.length ≤ SZ
      · rw [if_pos z] at q
        exact ⟨by rw [r.length]; exact sz_le z, fun p np => q.fin (Nxt.new w1.os np) (w1.of (same_new (w1.os.fnone np)) (List.prefix_refl _) (w1.os.new np)) (.tup (SqT.of upd_same) (r.same (same_new (w1.os.fnone np))))⟩
      · rw [if_neg z] at q; exact none_got q⟩
/-- a new list that is nobody's yet -/
def gNew (ss : List Sl) (m : List MO) : M (List T) := match vals ss with
  | some ts => if ts.length ≤ SZ then rM ts m else none
  | none => none
theorem new_list {σ : L2.St} {ρ : List (Option Sl)} {F0 F : Hp} {A0 A : List Addr} {H0 H : Hp} {m : List MO} {Q : VK} {xs : List V} {ts : List T} {p : Addr} (n0 : Nxt F0 A0 H0 F A H) (q : Got K W σ ρ F A H (fun F' A' H' v ts => rN K F' A' H' v ts ∧ ∀ p, v = .ref p → H0 p = none) (rM ts m) Q) (w : Wd K F A ρ m σ H) (np : H p = none) (r : RpL K F xs ts) (z : ts.length ≤ SZ) : Q (.ref p) (upd H p (.lst xs)) :=
  q.fin ⟨Same.refl _, List.prefix_refl _, fun _ _ e => .inl e, fun _ h => .inl h, fun a o e _ => by rw [upd_ne (ne_of_none e np)]; exact e⟩ (w.of (Same.refl _) (List.prefix_refl _) (w.os.keep np)) ⟨⟨p, xs, rfl, w.os.fnone np, w.os.notin np, upd_same, r, z⟩, fun p' e => by cases e; exact n0.back w.os np⟩
def vLst (f : VA) : VN := fun s => bM (f s) gNew
theorem pe_vlst {es : List Expr} {f : VA} {pos : Pos} (h : PA X es (LA K W f)) : PE X (.List es pos) (LN K W (vLst f)) := PE.imp (pe_lst h) fun σ H Q ⟨F, A, ρ, m, w, g⟩ =>
  ⟨F, A, ρ, m, w, (Got.bind (R1 := fun F' A' _ vs ss => RpSs K F' A' vs ss) g).mono fun xs H1 ⟨F1, A1, m1, ss, n1, w1, rs, q⟩ => by
    unfold gNew at q
    cases e : vals ss with
    | none => rw [e] at q; exact none_got q
    | some ts =>
      simp only [e] at q
      have r := vals_rp rs e
      by_cases z : ts.length ≤ SZ
      · rw [if_pos z] at q
        exact ⟨by rw [r.length]; exact sz_le z, fun p np => new_list n1 q w1 np r z⟩
      · rw [if_neg z] at q; exact none_got q⟩
/-! ### objects changed -/
theorem Objs.write {F : Hp} {A : List Addr} {m : List MO} {H : Hp} {i : Nat} {a : Addr} {o : MO} {u : HO} (h : Objs K F A m H) (ea : A[i]? = some a) (fa : F a = none) (mr : MRep K F A (upd H a u) a o) : Objs K F A (m.set i o) (upd H a u) where
  sub := fun b v e => by
    have ne : b ≠ a := fun z => by rw [z, fa] at e; cases e
    rw [upd_ne ne]; exact h.sub b v e
  len := by rw [List.length_set]; exact h.len
  nd := h.nd
  there := fun b hb => by
    by_cases z : b = a
    · subst z; exact ⟨_, upd_same⟩
    · rw [upd_ne z]; exact h.there b hb
  obj := fun j b v h1 h2 => by
    by_cases z : i = j
    · subst z
      rw [ea] at h1
      cases h1
      have hl : i < m.length := by
        have := (List.getElem?_eq_some_iff.mp h2).1
        rw [List.length_set] at this
        exact this
      rw [List.getElem?_set_self hl] at h2
      cases h2
      exact mr
    · rw [List.getElem?_set_ne z] at h2
      have ne : b ≠ a := fun q => by
        subst q
        obtain ⟨l1, e1⟩ := List.getElem?_eq_some_iff.mp ea
        obtain ⟨l2, e2⟩ := List.getElem?_eq_some_iff.mp h1
        exact z ((List.getElem_inj h.nd).mp (e1.trans e2.symm))
      exact (h.obj j b v h1 h2).next (Same.refl _) (List.prefix_refl _) (fun o e => by rw [upd_ne ne]; exact e) id
theorem Nxt.write {F : Hp} {A : List Addr} {H : Hp} {a : Addr} {u : HO} (ha : a ∈ A) : Nxt F A H F A (upd H a u) :=
  ⟨Same.refl _, List.prefix_refl _, fun _ _ e => .inl e, fun _ h => .inl h, fun b o e hb => by
    have ne : b ≠ a := fun z => hb (by rw [z]; exact ha)
    rw [upd_ne ne]; exact e⟩
/-- xs.append(e) -/
def gAppend (o : Sl) (ss : List Sl) (m : List MO) : M Sl := match o, ss with
  | .own i, [.val t] => match m[i]? with
    | some (.lst ts) => if ts.length < SZ then rM (.val .non) (m.set i (.lst (ts ++ [t]))) else none
    | _ => none
  | _, _ => none
def isLst (o : Sl) (m : List MO) : Bool := match o with
  | .own i => match m[i]? with
    | some (.lst _) => true
    | _ => false
  | _ => false
/-- a method of a list object -/
def vMet (g : Sl → List Sl → List MO → M Sl) (fo : VE) (fa : VA) : VE := fun s => bM (fo s) fun o m1 => if isLst o m1 = true then bM (fa ⟨s.ρ, m1⟩) fun ss m2 => g o ss m2 else none
def MetV (K : PySem.W.Frag) (r : V → List V → Hp → VK → Prop) (g : Sl → List Sl → List MO → M Sl) : Prop :=
  ∀ (W : WX) (F : Hp) (A : List Addr) (ρ : List (Option Sl)) (m : List MO) (σ : L2.St) (H : Hp) (x : V) (xs : List V) (a : Sl) (ss : List Sl) (Q : VK), Wd K F A ρ m σ H → RpS K F A x a → RpSs K F A xs ss → Got K W σ ρ F A H (rS K) (g a ss m) Q → r x xs H Q
theorem isLst_at {F : Hp} {A : List Addr} {m : List MO} {H : Hp} {o : Sl} {x : V} (h : Objs K F A m H) (r : RpS K F A x o) (e : isLst o m = true) : ∃ i a ts xs, o = .own i ∧ x = .ref a ∧ A[i]? = some a ∧ m[i]? = some (.lst ts) ∧ F a = none ∧ H a = some (.lst xs) ∧ RpL K F xs ts := by
  cases o with
  | val t => cases e
  | own i =>
    obtain ⟨a, h1, h2⟩ := r
    unfold isLst at e
    simp only at e
    split at e
    · rename_i ts em
      obtain ⟨fa, xs, h3, h4⟩ := h.obj i a _ h1 em
      exact ⟨i, a, ts, xs, rfl, h2, h1, em, fa, h3, h4⟩
    · cases e
theorem le_met {r : V → List V → Hp → VK → Prop} {g : Sl → List Sl → List MO → M Sl} {fo : VE} {fa : VA} (hv : MetV K r g) {σ : L2.St} {H : Hp} {Q : VK} (h : LE K W (vMet g fo fa) σ H Q) : tBM K "list" r (LE K W fo) (LA K W fa) σ H Q := by
  obtain ⟨F, A, ρ, m, w, got⟩ := h
  refine ⟨F, A, ρ, m, w, (Got.bind (R1 := rS K) got).mono fun x H1 ⟨F1, A1, m1, o, n1, w1, ro, q⟩ => ?_⟩
  by_cases e : isLst o m1 = true
  · rw [if_pos e] at q
    obtain ⟨i, a, ts, xs, rfl, rfl, ea, em, fa', eh, rl⟩ := isLst_at w1.os ro e
    refine ⟨.inl ⟨rfl, xs, SqL.of eh⟩, F1, A1, ρ, m1, w1, (Got.bind (R1 := fun F' A' _ vs ss => RpSs K F' A' vs ss) q).mono fun vs H2 ⟨F2, A2, m2, ss, n2, w2, rs, g2⟩ => ?_⟩
    exact hv W F2 A2 ρ m2 σ H2 _ vs _ ss Q w2 (RpS.next n2.sub n2.pre (s := .own i) ⟨a, ea, rfl⟩) rs g2
  · rw [if_neg e] at q; exact none_got q
theorem mv_append : MetV K rAppend gAppend := by
  intro W F A ρ m σ H x xs o ss Q w ro rs g
  unfold gAppend at g
  split at g
  · rename_i i t
    split at g
    · rename_i ts em
      by_cases z : ts.length < SZ
      · rw [if_pos z] at g
        obtain ⟨a, ea, rfl⟩ := ro
        obtain ⟨fa, ys, eh, rl⟩ := w.os.obj i a _ ea em
        cases rs with
        | cons rt r' =>
          cases r'
          refine ⟨a, ys, _, rfl, rfl, eh, by rw [rl.length]; exact sz_lt z, ?_⟩
          exact g.fin (Nxt.write (List.mem_of_getElem? ea)) (w.of (Same.refl _) (List.prefix_refl _) (w.os.write ea fa ⟨fa, _, upd_same, rl.append (.cons rt .nil)⟩)) (show Rp K F .non .non from .non)
      · rw [if_neg z] at g; exact none_got g
    · exact none_got g
  · exact none_got g
theorem pe_vappend {o e : Expr} {fo : VE} {fa : VA} {apos cpos : Pos} (ho : PE X o (LE X.K W fo)) (ha : PA X [e] (LA X.K W fa)) (hbase : attributeBase o "append" X.env (eval o X.env) = eval o X.env := by rfl)
    (hfew : ((backTo cpos (starEach (e :: []) X.env)).all (fun x => !x.1) && (backToKw cpos (keywordEach [] X.env)).all (fun x => x.1.isSome) && decide ((e :: []).length + ([] : List Keyword).length + (if ([] : List Keyword).isEmpty then 0 else 1) < 30)) = true := by rfl)
    (hline : (apos.endLine == cpos.line) = true := by rfl) (hs : starEach (e :: []) X.env = (false, eval e X.env) :: starEach [] X.env := by rfl) (hplain : (backTo cpos (starEach [] X.env)).any (·.1) = false := by rfl) :
    PE X (.Call (.Attribute o "append" apos) [e] [] cpos) (LE X.K W (vMet gAppend fo fa)) := PE.imp (pe_bm PySem.F.plainAttrs_list PySem.F.slot_list_append PySem.F.type_list_append mt_append ho ha hbase hfew hline hs hplain) fun _ _ _ => le_met mv_append
/-! ### a list that is changed no more -/
def vRetF (f : VE) : VS := fun s => bS s.ρ (f s) fun r m => match r with
  | .own i => match m[i]? with
    | some (.lst ts) => some (.rt (.val (.lst ts)), ⟨s.ρ, m.set i .dead⟩)
    | _ => none
  | _ => none
theorem freeze {F : Hp} {A : List Addr} {ρ : List (Option Sl)} {m : List MO} {σ : L2.St} {H : Hp} {i : Nat} {a : Addr} {ts : List T} {xs : List V} (w : Wd K F A ρ m σ H) (ea : A[i]? = some a) (em : m[i]? = some (.lst ts)) (fa : F a = none) (eh : H a = some (.lst xs)) :
    Nxt F A H (upd F a (.lst xs)) A H ∧ Wd K (upd F a (.lst xs)) A ρ (m.set i .dead) σ H := by
  have s1 : Same F (upd F a (.lst xs)) := same_new fa
  refine ⟨⟨s1, List.prefix_refl _, fun b u e => ?_, fun _ h => .inl h, fun _ _ e _ => e⟩, w.of s1 (List.prefix_refl _) ⟨fun b u e => ?_, by rw [List.length_set]; exact w.os.len, w.os.nd, w.os.there, fun j b o h1 h2 => ?_⟩⟩
  · by_cases z : b = a
    · subst z; exact .inr (.inr (List.mem_of_getElem? ea))
    · rw [upd_ne z] at e; exact .inl e
  · by_cases z : b = a
    · subst z; rw [upd_same] at e; rw [eh]; exact e
    · rw [upd_ne z] at e; exact w.os.sub b u e
  · by_cases z : i = j
    · subst z
      have hl : i < m.length := by
        have := (List.getElem?_eq_some_iff.mp h2).1
        rw [List.length_set] at this
        exact this
      rw [List.getElem?_set_self hl] at h2
      cases h2
      trivial
    · rw [List.getElem?_set_ne z] at h2
      have ne : b ≠ a := fun q => by
        subst q
        obtain ⟨l1, e1⟩ := List.getElem?_eq_some_iff.mp ea
        obtain ⟨l2, e2⟩ := List.getElem?_eq_some_iff.mp h1
        exact z ((List.getElem_inj w.os.nd).mp (e1.trans e2.symm))
      exact (w.os.obj j b o h1 h2).next s1 (List.prefix_refl _) (fun _ e => e) fun e => by rw [upd_ne ne]; exact e
theorem ps_vretF {e : Expr} {f : VE} {pos : Pos} (he : PE X e (LE K W f)) : PS X (.Return (some e) pos) (LS K W (vRetF f)) := PS.imp (ps_ret he) fun D σ H ⟨F, A, ρ, m, w, r⟩ =>
  ⟨F, A, ρ, m, w, (Ran.bS (rS K) r).mono fun b H1 ⟨F1, A1, m1, a, n, w1, ra, q⟩ => by
    split at q
    · rename_i i
      split at q
      · rename_i ts em
        obtain ⟨ad, ea, rfl⟩ := ra
        obtain ⟨fa, xs, eh, rl⟩ := w1.os.obj i ad _ ea em
        obtain ⟨n2, w2⟩ := freeze w1 ea em fa eh
        exact (q.later n2).rt w2 (.lst upd_same (rl.same n2.sub))
      · obtain ⟨_, _, z, _⟩ := q; cases z
    · obtain ⟨_, _, z, _⟩ := q; cases z⟩
/-! ### while, at most N turns -/
def vWh (c : VT) (b : VS) : Nat → S → R
  | 0, _ => none
  | n + 1, s => bS s.ρ (c s) fun t m => if t = true then (match b ⟨s.ρ, m⟩ with
      | some (.nx, s2) => vWh c b n s2
      | some (.ct, s2) => vWh c b n s2
      | some (.bk, s2) => some (.nx, s2)
      | x => x) else some (.nx, ⟨s.ρ, m⟩)
theorem ps_vwhile (N : Nat) {c : Expr} {body : List Stmt} {fc : VT} {b : VS} {pos : Pos} (hp : PassesOwn (model X.prog X.w) X.A X.env X.xe) (hc : PT X c (LT K W fc)) (hb : PSs X body (LS K W b)) : PS X (.While c body [] pos) (LS K W (vWh fc b N)) := PS.imp (ps_while hp hc hb) fun D σ H ⟨F, A, ρ, m, w, r⟩ => by
  refine ⟨fun k τ G => ∃ F' A' ρ' m', Nxt F A H F' A' G ∧ Wd K F' A' ρ' m' τ G ∧ Ran K W F' A' G D (vWh fc b k ⟨ρ', m'⟩), ⟨N, F, A, ρ, m, Nxt.refl, w, r⟩, ?_⟩
  rintro k τ G ⟨F', A', ρ', m', n', w', q⟩
  cases k with
  | zero => obtain ⟨_, _, z, _⟩ := q; cases z
  | succ k =>
    unfold vWh at q
    refine ⟨F', A', ρ', m', w', (Ran.bS (fun _ _ _ b c => b = c) q).mono fun t H1 ⟨F1, A1, m1, a, n1, w1, ra, q1⟩ => ?_⟩
    cases ra
    cases t with
    | false => rw [if_neg Bool.false_ne_true] at q1 ⊢; exact q1.nx w1
    | true =>
      rw [if_pos rfl] at q1 ⊢
      refine ⟨fun τ2 G2 => ∃ F2 A2 ρ2 m2, Nxt F A H F2 A2 G2 ∧ Wd K F2 A2 ρ2 m2 τ2 G2 ∧ Ran K W F2 A2 G2 D (vWh fc b k ⟨ρ2, m2⟩), fun τ2 G2 z => ⟨k, Nat.lt_succ_self k, z⟩, F1, A1, ρ', m1, w1, ?_⟩
      match eb : b ⟨ρ', m1⟩, q1 with
      | none, q3 => obtain ⟨_, _, z, _⟩ := q3; simp only [eb] at z; cases z
      | some (.nx, s2), q3 => exact ⟨_, _, rfl, fun F5 A5 σ5 H5 n5 w5 => ⟨F5, A5, s2.ρ, s2.m, n'.trans (n1.trans n5), w5, by simp only [eb] at q3; exact q3.later n5⟩⟩
      | some (.ct, s2), q3 => exact ⟨_, _, rfl, fun F5 A5 σ5 H5 n5 w5 => ⟨F5, A5, s2.ρ, s2.m, n'.trans (n1.trans n5), w5, by simp only [eb] at q3; exact q3.later n5⟩⟩
      | some (.bk, s2), q3 =>
        simp only [eb] at q3
        obtain ⟨_, _, z, h⟩ := q3
        cases z
        exact ⟨_, _, rfl, h⟩
      | some (.rt r, s2), q3 =>
        simp only [eb] at q3
        obtain ⟨_, _, z, h⟩ := q3
        cases z
        exact ⟨_, _, rfl, h⟩
      | some (.ex C fs, s2), q3 =>
        simp only [eb] at q3
        obtain ⟨_, _, z, h⟩ := q3
        cases z
        exact ⟨_, _, rfl, h⟩
end
end Vs
end
section
/-! Vs6: defs as functions of values and stores, their calls; objects are lent. -/
namespace Vs
open PySem PySem.Spec PyProof.Rows L2
variable [WW]
abbrev VF := List Sl → List MO → M Sl
/-- a def promises what the function says -/
def SpV (K : PySem.W.Frag) (np : Nat) (vf : VF) : Sp := fun vs H Q E => vs.length = np ∧ ∃ F A args m, Objs K F A m H ∧ RpSs K F A vs args ∧ ∃ o m', vf args m = some (o, m') ∧ match o with
  | .ok r => ∀ F' A' v H', Nxt F A H F' A' H' → Objs K F' A' m' H' → RpS K F' A' v r → Q v H'
  | .ex C fs => ∀ F' A' d ws H', Nxt F A H F' A' H' → Objs K F' A' m' H' → RpF K F' ws fs → H' d = some (.xd ws) → E (.ref C) (some d) H'
def vDef (nl : Nat) (b : VS) : VF := fun args m => match b ⟨args.map some ++ List.replicate (nl - args.length) none, m⟩ with
  | some (.rt r, s) => some (.ok r, s.m)
  | some (.nx, s) => some (.ok (.val .non), s.m)
  | some (.ex C fs, s) => some (.ex C fs, s.m)
  | _ => none
theorem RpSs.length {K : PySem.W.Frag} {F : Hp} {A : List Addr} : ∀ {vs : List V} {ss : List Sl}, RpSs K F A vs ss → vs.length = ss.length
  | _, _, .nil => rfl
  | _, _, .cons _ r => by rw [List.length_cons, List.length_cons, RpSs.length r]
theorem RpSs.get {K : PySem.W.Frag} {F : Hp} {A : List Addr} : ∀ {vs : List V} {ss : List Sl} {i : Nat} {s : Sl}, RpSs K F A vs ss → ss[i]? = some s → ∃ v, vs[i]? = some v ∧ RpS K F A v s
  | _, _, i, t, .nil, e => by simp at e
  | _, _, 0, t, .cons a r, e => by
    rw [List.getElem?_cons_zero] at e
    cases e
    exact ⟨_, rfl, a⟩
  | _, _, i + 1, t, .cons a r, e => by
    rw [List.getElem?_cons_succ] at e
    obtain ⟨v, h1, h2⟩ := RpSs.get r e
    exact ⟨v, by rw [List.getElem?_cons_succ]; exact h1, h2⟩
theorem wd_start {K : PySem.W.Frag} {F : Hp} {A : List Addr} {m : List MO} {H : Hp} {N : List Str} {vs : List V} {args : List Sl} (o : Objs K F A m H) (r : RpSs K F A vs args) : Wd K F A (args.map some ++ List.replicate (N.length - args.length) none) m (L2.start N vs) H := by
  have hl := r.length
  refine ⟨o, fun i s e => ?_, ?_⟩
  · by_cases hi : i < args.length
    · rw [List.getElem?_append_left (by rw [List.length_map]; exact hi), List.getElem?_map] at e
      cases z : args[i]? with
      | none => rw [z] at e; cases e
      | some t =>
        rw [z] at e
        cases e
        obtain ⟨v, h1, h2⟩ := r.get z
        refine ⟨v, ?_, h2⟩
        unfold L2.start
        rw [List.getElem?_append_left (by rw [List.length_map, hl]; exact hi), List.getElem?_map, h1]
        rfl
    · rw [List.getElem?_append_right (by rw [List.length_map]; omega), List.getElem?_replicate] at e
      split at e <;> cases e
  · unfold L2.start
    rw [List.length_append, List.length_append, List.length_map, List.length_map, List.length_replicate, List.length_replicate, hl]
section
variable {P : Program} {w : World} {K : PySem.W.Frag} {mg : Str → Option Value} {base : Heap}
/-- THE RULE for a def: its body's rules -/
theorem okV {x qual : Str} {st : Stmt} {f : Addr} {fd : FuncData} {N ps : List Str} {k : Nat} {b : VS} (F : Fun K x qual st f fd) (S : FnScope N ps (defScope st))
    (hb : ∀ (cdv : Value) (A : Around) (outer : List Env) (s : Shared) (H : Hp) (E : XK), Room k (A.deeper (envOfC qual (defScope st) s.heap.objs.size f cdv)) →
      PSs (cxOf (L2.CX P w) P w K mg base N qual (defScope st) f cdv A outer s H E) (defBody st) (LS K (fun cls d _ H => E cls d H) b)) : FnOk P w K mg base (L2.CX P w) (k + 1) f fd ps (SpV K ps.length (vDef N.length b)) := by
  refine F.okX S (fun vs H Q E h => h.1) (fun cdv A outer s H vs Q E hr h => ⟨_, hb cdv A outer s H E hr, ?_⟩)
  obtain ⟨hl, F0, A0, args, m, o, r, out, m', ev, hq⟩ := h
  unfold vDef at ev
  refine ⟨F0, A0, _, m, wd_start (N := N) o r, ?_⟩
  split at ev
  · rename_i rr s' eb
    cases ev
    exact ⟨_, _, eb, fun F' A' σ' v H' n w' rv => hq F' A' v H' n w'.os rv⟩
  · rename_i s' eb
    cases ev
    exact ⟨_, _, eb, fun F' A' σ' H' n w' => hq F' A' .non H' n w'.os (show Rp K F' .non .non from .non)⟩
  · rename_i C fs s' eb
    cases ev
    exact ⟨_, _, eb, fun F' A' σ' d ws H' n w' rf hd => hq F' A' d ws H' n w'.os rf hd⟩
  · cases ev
end
/-! ### what a def made for itself is forgotten -/
def slUnder (k : Nat) : Sl → Bool
  | .val _ => true
  | .own i => decide (i < k)
def moUnder (k : Nat) : MO → Bool
  | .rcd fs => fs.all fun p => slUnder k p.2
  | .ins _ fs => fs.all fun p => slUnder k p.2
  | .lsO ss => ss.all (slUnder k)
  | _ => true
def outUnder (k : Nat) : Out Sl → Bool
  | .ok s => slUnder k s
  | .ex _ _ => true
def vTrim (vf : VF) : VF := fun args m => match vf args m with
  | some (o, m') => if m.length ≤ m'.length ∧ outUnder m.length o = true ∧ (m'.take m.length).all (moUnder m.length) = true then some (o, m'.take m.length) else none
  | none => none
section
variable {K : PySem.W.Frag} {F : Hp} {A A' : List Addr}
theorem rpS_under {k : Nat} {v : V} {s : Sl} (p : A <+: A') (hk : A.length = k) (u : slUnder k s = true) (h : RpS K F A' v s) : RpS K F A v s := by
  cases s with
  | val t => exact h
  | own i =>
    obtain ⟨a, h1, h2⟩ := h
    have hi : i < A.length := by rw [hk]; exact of_decide_eq_true u
    obtain ⟨β, rfl⟩ := p
    rw [List.getElem?_append_left hi] at h1
    exact ⟨a, h1, h2⟩
theorem rpG_under {k : Nat} (p : A <+: A') (hk : A.length = k) : ∀ {vs : List (Str × V)} {fs : List (Str × Sl)}, fs.all (fun p => slUnder k p.2) = true → RpG K F A' vs fs → RpG K F A vs fs
  | _, _, _, .nil => .nil
  | _, _, u, .cons h r => by
    rw [List.all_cons, Bool.and_eq_true] at u
    exact .cons (rpS_under p hk u.1 h) (rpG_under p hk u.2 r)
theorem rpSs_under {k : Nat} (p : A <+: A') (hk : A.length = k) : ∀ {vs : List V} {ss : List Sl}, ss.all (slUnder k) = true → RpSs K F A' vs ss → RpSs K F A vs ss
  | _, _, _, .nil => .nil
  | _, _, u, .cons h r => by
    rw [List.all_cons, Bool.and_eq_true] at u
    exact .cons (rpS_under p hk u.1 h) (rpSs_under p hk u.2 r)
theorem mRep_under {k : Nat} {H : Hp} {a : Addr} {o : MO} (p : A <+: A') (hk : A.length = k) (u : moUnder k o = true) (h : MRep K F A' H a o) : MRep K F A H a o := by
  cases o with
  | lst ts => exact h
  | rcd fs => obtain ⟨z, vs, h1, h2⟩ := h; exact ⟨z, vs, h1, rpG_under p hk u h2⟩
  | ins C fs => obtain ⟨z, dx, vs, h1, h2⟩ := h; exact ⟨z, dx, vs, h1, rpG_under p hk u h2⟩
  | lsO ss => obtain ⟨z, vs, h1, h2⟩ := h; exact ⟨z, vs, h1, rpSs_under p hk u h2⟩
  | dct ps => exact h
  | dead => trivial
theorem objs_trim {m m' : List MO} {H H' : Hp} {F' : Hp} (n : Nxt F A H F' A' H') (o : Objs K F A m H) (o' : Objs K F' A' m' H') (hl : m.length ≤ m'.length) (u : (m'.take m.length).all (moUnder m.length) = true) :
    Nxt F A H F' A H' ∧ Objs K F' A (m'.take m.length) H' := by
  obtain ⟨β, hb⟩ := n.pre
  have sub : ∀ a ∈ A, a ∈ A' := fun a ha => by rw [← hb]; exact List.mem_append_left _ ha
  refine ⟨⟨n.sub, List.prefix_refl _, n.fresh, fun a ha => .inl ha, n.keep⟩, ⟨o'.sub, by rw [List.length_take, o.len]; omega, ?_, fun a ha => o'.there a (sub a ha), fun i a v h1 h2 => ?_⟩⟩
  · have := o'.nd
    rw [← hb] at this
    exact (List.nodup_append.mp this).1
  · have hi : i < A.length := (List.getElem?_eq_some_iff.mp h1).1
    have h2' := h2
    rw [List.getElem?_take_of_lt (by rw [← o.len]; exact hi)] at h2
    exact mRep_under n.pre o.len (List.all_eq_true.mp u v (List.mem_of_getElem? h2')) (o'.obj i a v (pre_get n.pre h1) h2)
end
theorem okTrim {P : Program} {w : World} {K : PySem.W.Frag} {mg : Str → Option Value} {base : Heap} {CX : CXT} {k np : Nat} {f : Addr} {fd : FuncData} {ps : List Str} {vf : VF} (h : FnOk P w K mg base CX k f fd ps (SpV K np vf)) : FnOk P w K mg base CX k f fd ps (SpV K np (vTrim vf)) := h.imp fun vs H Q E ⟨hl, F, A, args, m, o, r, out, m', ev, hq⟩ => by
  refine ⟨hl, F, A, args, m, o, r, ?_⟩
  unfold vTrim at ev
  cases z : vf args m with
  | none => rw [z] at ev; cases ev
  | some p =>
    obtain ⟨out2, m2⟩ := p
    rw [z] at ev
    simp only at ev
    split at ev
    · rename_i c
      cases ev
      refine ⟨_, _, rfl, ?_⟩
      cases out with
      | ok rr =>
        intro F' A' v H' n o' rv
        obtain ⟨n2, o2⟩ := objs_trim n o o' c.1 c.2.2
        exact hq F' A v H' n2 o2 (rpS_under n.pre o.len c.2.1 rv)
      | ex C fs =>
        intro F' A' d ws H' n o' rf hd
        obtain ⟨n2, o2⟩ := objs_trim n o o' c.1 c.2.2
        exact hq F' A d ws H' n2 o2 rf hd
    · cases ev
/-- a function in place of an equal one -/
theorem okEq {P : Program} {w : World} {K : PySem.W.Frag} {mg : Str → Option Value} {base : Heap} {CX : CXT} {k np : Nat} {f : Addr} {fd : FuncData} {ps : List Str} {vf vg : VF} (h : FnOk P w K mg base CX k f fd ps (SpV K np vf)) (e : ∀ args m o m', vg args m = some (o, m') → vf args m = some (o, m')) : FnOk P w K mg base CX k f fd ps (SpV K np vg) := h.imp fun vs H Q E ⟨hl, F, A, args, m, o, r, out, m', ev, hq⟩ => ⟨hl, F, A, args, m, o, r, out, m', e _ _ _ _ ev, hq⟩
end Vs
end
section
/-! Vs7: calls of defs; the objects that the arguments reach are lent under numbers of their own. -/
namespace Vs
open PySem PySem.Spec PyProof.Rows L2
variable [WW]
def kidsF : List (Str × Sl) → List Nat
  | [] => []
  | (_, .own i) :: r => i :: kidsF r
  | _ :: r => kidsF r
def kidsL : List Sl → List Nat
  | [] => []
  | .own i :: r => i :: kidsL r
  | _ :: r => kidsL r
def kids : Option MO → List Nat
  | some (.rcd fs) => kidsF fs
  | some (.ins _ fs) => kidsF fs
  | some (.lsO ss) => kidsL ss
  | _ => []
def grow (m : List MO) : Nat → List Nat → List Nat → List Nat
  | 0, _, acc => acc
  | _, [], acc => acc
  | n + 1, i :: r, acc => if i ∈ acc then grow m n r acc else grow m n (kids m[i]? ++ r) (acc ++ [i])
def owns : List Sl → List Nat
  | [] => []
  | .own i :: r => i :: owns r
  | _ :: r => owns r
/-- where i stands in ids -/
def ixOf (ids : List Nat) (i : Nat) : Option Nat := match ids with
  | [] => none
  | j :: r => if j = i then some 0 else (ixOf r i).map (· + 1)
theorem ixOf_get : ∀ {ids : List Nat} {i j : Nat}, ixOf ids i = some j → ids[j]? = some i
  | [], i, j, e => by cases e
  | k :: r, i, j, e => by
    unfold ixOf at e
    split at e
    · rename_i h; cases e; rw [h]; rfl
    · cases z : ixOf r i with
      | none => rw [z] at e; cases e
      | some n => rw [z] at e; cases e; rw [List.getElem?_cons_succ]; exact ixOf_get z
theorem ixOf_none : ∀ {ids : List Nat} {i : Nat}, ixOf ids i = none → i ∉ ids
  | [], i, _ => by simp
  | k :: r, i, e => by
    unfold ixOf at e
    split at e
    · cases e
    · rename_i h
      cases z : ixOf r i with
      | none => exact fun q => (List.mem_cons.mp q).elim (fun q => h q.symm) (ixOf_none z)
      | some n => rw [z] at e; cases e
def renS (ids : List Nat) : Sl → Option Sl
  | .val t => some (.val t)
  | .own i => (ixOf ids i).map .own
def renSs (ids : List Nat) : List Sl → Option (List Sl)
  | [] => some []
  | s :: r => match renS ids s, renSs ids r with
    | some t, some u => some (t :: u)
    | _, _ => none
def renF (ids : List Nat) : List (Str × Sl) → Option (List (Str × Sl))
  | [] => some []
  | (x, s) :: r => match renS ids s, renF ids r with
    | some t, some u => some ((x, t) :: u)
    | _, _ => none
def renM (ids : List Nat) : MO → Option MO
  | .lst ts => some (.lst ts)
  | .rcd fs => (renF ids fs).map .rcd
  | .ins C fs => (renF ids fs).map (.ins C)
  | .lsO ss => (renSs ids ss).map .lsO
  | .dct ps => some (.dct ps)
  | .dead => some .dead
def renMs (ids : List Nat) (m : List MO) : List Nat → Option (List MO)
  | [] => some []
  | i :: r => match m[i]? with
    | none => none
    | some o => match renM ids o, renMs ids m r with
      | some t, some u => some (t :: u)
      | _, _ => none
def back (ids : List Nat) (k : Nat) (j : Nat) : Nat := match ids[j]? with
  | some i => i
  | none => k + (j - ids.length)
def backS (ids : List Nat) (k : Nat) : Sl → Sl
  | .val t => .val t
  | .own j => .own (back ids k j)
def backF (ids : List Nat) (k : Nat) : List (Str × Sl) → List (Str × Sl)
  | [] => []
  | (x, s) :: r => (x, backS ids k s) :: backF ids k r
def backSs (ids : List Nat) (k : Nat) : List Sl → List Sl
  | [] => []
  | s :: r => backS ids k s :: backSs ids k r
def backM (ids : List Nat) (k : Nat) : MO → MO
  | .lst ts => .lst ts
  | .rcd fs => .rcd (backF ids k fs)
  | .ins C fs => .ins C (backF ids k fs)
  | .lsO ss => .lsO (backSs ids k ss)
  | .dct ps => .dct ps
  | .dead => .dead
/-- the store with the lent objects as they are now, i the number of the first -/
def putFrom (ids : List Nat) (k : Nat) (sub : List MO) : List MO → Nat → List MO
  | [], _ => []
  | o :: r, i => (match ixOf ids i with
    | some j => match sub[j]? with
      | some u => backM ids k u
      | none => o
    | none => o) :: putFrom ids k sub r (i + 1)
def putAll (ids : List Nat) (m sub : List MO) : List MO := putFrom ids m.length sub m 0 ++ (sub.drop ids.length).map (backM ids m.length)
def backO (ids : List Nat) (k : Nat) : Out Sl → Out Sl
  | .ok s => .ok (backS ids k s)
  | .ex C fs => .ex C fs
def callM (vf : VF) (args : List Sl) (m : List MO) : M Sl :=
  let ids := grow m 100 (owns args) []
  if ids.Nodup then match renSs ids args, renMs ids m ids with
    | some as, some sub => match vf as sub with
      | some (o, sub') => if ids.length ≤ sub'.length then some (backO ids m.length o, putAll ids m sub') else none
      | none => none
    | _, _ => none
  else none
theorem putFrom_len {ids : List Nat} {k : Nat} {sub : List MO} : ∀ {m : List MO} {i : Nat}, (putFrom ids k sub m i).length = m.length
  | [], _ => rfl
  | o :: r, i => by
    show (putFrom ids k sub r (i + 1)).length + 1 = _
    rw [putFrom_len, List.length_cons]
theorem putFrom_get {ids : List Nat} {k : Nat} {sub : List MO} : ∀ {m : List MO} {i n : Nat} {o : MO}, m[n]? = some o → (putFrom ids k sub m i)[n]? = some (match ixOf ids (i + n) with
    | some j => match sub[j]? with
      | some u => backM ids k u
      | none => o
    | none => o)
  | [], i, n, o, e => by simp at e
  | u :: r, i, 0, o, e => by
    rw [List.getElem?_cons_zero] at e
    cases e
    rfl
  | u :: r, i, n + 1, o, e => by
    rw [List.getElem?_cons_succ] at e
    show (putFrom ids k sub r (i + 1))[n]? = _
    rw [putFrom_get e, show i + 1 + n = i + (n + 1) by omega]
section
variable {K : PySem.W.Frag} {F : Hp} {A : List Addr}
/-- the lent addresses -/
def lent (A : List Addr) (ids : List Nat) : List Addr := ids.map fun i => A.getD i 0
theorem lent_get {ids : List Nat} {i j : Nat} {a : Addr} (h : ids[j]? = some i) (e : A[i]? = some a) : (lent A ids)[j]? = some a := by
  unfold lent
  rw [List.getElem?_map, h]
  show some (A.getD i 0) = some a
  rw [List.getD_eq_getElem?_getD, e]
  rfl
theorem renS_rp {ids : List Nat} {v : V} {s t : Sl} (e : renS ids s = some t) (h : RpS K F A v s) : RpS K F (lent A ids) v t := by
  cases s with
  | val x => cases e; exact h
  | own i =>
    obtain ⟨a, h1, h2⟩ := h
    change (ixOf ids i).map Sl.own = some t at e
    cases z : ixOf ids i with
    | none => rw [z] at e; cases e
    | some j => rw [z] at e; cases e; exact ⟨a, lent_get (ixOf_get z) h1, h2⟩
theorem renSs_rp {ids : List Nat} : ∀ {vs : List V} {ss ts : List Sl}, renSs ids ss = some ts → RpSs K F A vs ss → RpSs K F (lent A ids) vs ts
  | _, _, ts, e, .nil => by cases e; exact .nil
  | _, s :: r, ts, e, .cons h q => by
    unfold renSs at e
    split at e
    · rename_i t u e1 e2
      cases e
      exact .cons (renS_rp e1 h) (renSs_rp e2 q)
    · cases e
theorem renF_rp {ids : List Nat} : ∀ {vs : List (Str × V)} {ss ts : List (Str × Sl)}, renF ids ss = some ts → RpG K F A vs ss → RpG K F (lent A ids) vs ts
  | _, _, ts, e, .nil => by cases e; exact .nil
  | _, (x, s) :: r, ts, e, .cons h q => by
    unfold renF at e
    split at e
    · rename_i t u e1 e2
      cases e
      exact .cons (renS_rp e1 h) (renF_rp e2 q)
    · cases e
theorem renM_rp {ids : List Nat} {H : Hp} {a : Addr} {o u : MO} (e : renM ids o = some u) (h : MRep K F A H a o) : MRep K F (lent A ids) H a u := by
  cases o with
  | lst ts => cases e; exact h
  | rcd fs =>
    obtain ⟨z, vs, h1, h2⟩ := h
    change (renF ids fs).map MO.rcd = some u at e
    cases y : renF ids fs with
    | none => rw [y] at e; cases e
    | some g => rw [y] at e; cases e; exact ⟨z, vs, h1, renF_rp y h2⟩
  | ins C fs =>
    obtain ⟨z, dx, vs, h1, h2⟩ := h
    change (renF ids fs).map (MO.ins C) = some u at e
    cases y : renF ids fs with
    | none => rw [y] at e; cases e
    | some g => rw [y] at e; cases e; exact ⟨z, dx, vs, h1, renF_rp y h2⟩
  | lsO ss =>
    obtain ⟨z, vs, h1, h2⟩ := h
    change (renSs ids ss).map MO.lsO = some u at e
    cases y : renSs ids ss with
    | none => rw [y] at e; cases e
    | some g => rw [y] at e; cases e; exact ⟨z, vs, h1, renSs_rp y h2⟩
  | dct ps => cases e; exact h
  | dead => cases e; trivial
theorem renMs_len {ids : List Nat} {m : List MO} : ∀ {l : List Nat} {sub : List MO}, renMs ids m l = some sub → sub.length = l.length
  | [], sub, e => by cases e; rfl
  | i :: r, sub, e => by
    unfold renMs at e
    split at e
    · cases e
    · split at e
      · rename_i t u _ e2
        cases e
        rw [List.length_cons, List.length_cons, renMs_len e2]
      · cases e
theorem renMs_get {ids : List Nat} {m : List MO} : ∀ {l : List Nat} {sub : List MO} {j : Nat} {u : MO}, renMs ids m l = some sub → sub[j]? = some u → ∃ i o, l[j]? = some i ∧ m[i]? = some o ∧ renM ids o = some u
  | [], sub, j, u, e, h => by cases e; simp at h
  | i :: r, sub, j, u, e, h => by
    unfold renMs at e
    split at e
    · cases e
    · rename_i o eo
      split at e
      · rename_i t us e1 e2
        cases e
        cases j with
        | zero => rw [List.getElem?_cons_zero] at h; cases h; exact ⟨i, o, rfl, eo, e1⟩
        | succ j =>
          rw [List.getElem?_cons_succ] at h
          obtain ⟨i', o', h1, h2, h3⟩ := renMs_get e2 h
          exact ⟨i', o', by rw [List.getElem?_cons_succ]; exact h1, h2, h3⟩
      · cases e
theorem renMs_in {ids : List Nat} {m : List MO} : ∀ {l : List Nat} {sub : List MO}, renMs ids m l = some sub → ∀ i ∈ l, i < m.length
  | [], sub, e, i, h => by simp at h
  | k :: r, sub, e, i, h => by
    unfold renMs at e
    split at e
    · cases e
    · rename_i o eo
      split at e
      · rename_i t us e1 e2
        rcases List.mem_cons.mp h with rfl | h
        · exact (List.getElem?_eq_some_iff.mp eo).1
        · exact renMs_in e2 i h
      · cases e
theorem lent_mem {ids : List Nat} {a : Addr} (hi : ∀ i ∈ ids, i < A.length) (h : a ∈ lent A ids) : ∃ i ∈ ids, A[i]? = some a := by
  obtain ⟨i, h1, h2⟩ := List.mem_map.mp h
  refine ⟨i, h1, ?_⟩
  have e : A[i]? = some (A[i]'(hi i h1)) := List.getElem?_eq_getElem (hi i h1)
  rw [List.getD_eq_getElem?_getD, e] at h2
  rw [e, ← h2]
  rfl
theorem lent_nodup {ids : List Nat} (hn : ids.Nodup) (hA : A.Nodup) (hi : ∀ i ∈ ids, i < A.length) : (lent A ids).Nodup := by
  unfold lent
  refine List.pairwise_map.mpr (List.Pairwise.imp_of_mem (fun {i j} hi' hj' ne q => ne ?_) hn)
  have e1 : A[i]? = some (A[i]'(hi i hi')) := List.getElem?_eq_getElem (hi i hi')
  have e2 : A[j]? = some (A[j]'(hi j hj')) := List.getElem?_eq_getElem (hi j hj')
  rw [List.getD_eq_getElem?_getD, List.getD_eq_getElem?_getD, e1, e2] at q
  exact (List.getElem_inj hA).mp q
theorem objs_lent {ids : List Nat} {m sub : List MO} {H : Hp} (o : Objs K F A m H) (hn : ids.Nodup) (e : renMs ids m ids = some sub) : Objs K F (lent A ids) sub H := by
  have hin : ∀ i ∈ ids, i < A.length := fun i h => by rw [o.len]; exact renMs_in e i h
  refine ⟨o.sub, by rw [renMs_len e]; exact List.length_map .., lent_nodup hn o.nd hin, fun a ha => ?_, fun j a u h1 h2 => ?_⟩
  · obtain ⟨i, _, q⟩ := lent_mem hin ha
    exact o.there a (List.mem_of_getElem? q)
  · obtain ⟨i, v, h3, h4, h5⟩ := renMs_get e h2
    have hi := hin i (List.mem_of_getElem? h3)
    have ea : A[i]? = some A[i] := List.getElem?_eq_getElem hi
    rw [lent_get h3 ea] at h1
    cases h1
    exact renM_rp h5 (o.obj i _ v ea h4)
end
section
variable {K : PySem.W.Frag} {F' : Hp} {B A' : List Addr} {ids : List Nat} {k : Nat}
theorem backS_rp (key : ∀ (j : Nat) (a : Addr), B[j]? = some a → A'[back ids k j]? = some a) {v : V} {s : Sl} (h : RpS K F' B v s) : RpS K F' A' v (backS ids k s) := by
  cases s with
  | val t => exact h
  | own j => obtain ⟨a, h1, h2⟩ := h; exact ⟨a, key j a h1, h2⟩
theorem backF_rp (key : ∀ (j : Nat) (a : Addr), B[j]? = some a → A'[back ids k j]? = some a) : ∀ {vs : List (Str × V)} {fs : List (Str × Sl)}, RpG K F' B vs fs → RpG K F' A' vs (backF ids k fs)
  | _, _, .nil => .nil
  | _, _, .cons h r => .cons (backS_rp key h) (backF_rp key r)
theorem backSs_rp (key : ∀ (j : Nat) (a : Addr), B[j]? = some a → A'[back ids k j]? = some a) : ∀ {vs : List V} {ss : List Sl}, RpSs K F' B vs ss → RpSs K F' A' vs (backSs ids k ss)
  | _, _, .nil => .nil
  | _, _, .cons h r => .cons (backS_rp key h) (backSs_rp key r)
theorem backM_rp (key : ∀ (j : Nat) (a : Addr), B[j]? = some a → A'[back ids k j]? = some a) {H : Hp} {a : Addr} {o : MO} (h : MRep K F' B H a o) : MRep K F' A' H a (backM ids k o) := by
  cases o with
  | lst ts => exact h
  | rcd fs => obtain ⟨z, vs, h1, h2⟩ := h; exact ⟨z, vs, h1, backF_rp key h2⟩
  | ins C fs => obtain ⟨z, dx, vs, h1, h2⟩ := h; exact ⟨z, dx, vs, h1, backF_rp key h2⟩
  | lsO ss => obtain ⟨z, vs, h1, h2⟩ := h; exact ⟨z, vs, h1, backSs_rp key h2⟩
  | dct ps => exact h
  | dead => trivial
end
/-- behind a call: the lent objects as they are now, new ones behind the old -/
theorem objs_back {K : PySem.W.Frag} {F F' : Hp} {A B : List Addr} {H H' : Hp} {m sub sub' : List MO} {ids : List Nat} (o : Objs K F A m H) (hn : ids.Nodup) (e : renMs ids m ids = some sub) (n : Nxt F (lent A ids) H F' B H') (o' : Objs K F' B sub' H') (hl : ids.length ≤ sub'.length) :
    Nxt F A H F' (A ++ B.drop ids.length) H' ∧ Objs K F' (A ++ B.drop ids.length) (putAll ids m sub') H' ∧ ∀ (j : Nat) (a : Addr), B[j]? = some a → (A ++ B.drop ids.length)[back ids m.length j]? = some a := by
  have hin : ∀ i ∈ ids, i < A.length := fun i h => by rw [o.len]; exact renMs_in e i h
  have ll : (lent A ids).length = ids.length := List.length_map ..
  obtain ⟨β, hβ⟩ := n.pre
  have hd : B.drop ids.length = β := by rw [← hβ, ← ll, List.drop_left]
  rw [hd]
  have inA : ∀ a ∈ lent A ids, a ∈ A := fun a ha => by
    obtain ⟨i, _, q⟩ := lent_mem hin ha
    exact List.mem_of_getElem? q
  have ndB := o'.nd
  rw [← hβ] at ndB
  have apart := (List.nodup_append.mp ndB).2.2
  have newβ : ∀ a ∈ β, H a = none := fun a ha => by
    rcases n.news a (by rw [← hβ]; exact List.mem_append_right _ ha) with z | z
    · exact absurd rfl (apart a z a ha)
    · exact z
  have notA : ∀ a ∈ β, a ∉ A := fun a ha q => by
    obtain ⟨u, z⟩ := o.there a q
    rw [newβ a ha] at z; cases z
  have key : ∀ (j : Nat) (a : Addr), B[j]? = some a → (A ++ β)[back ids m.length j]? = some a := fun j a h => by
    unfold back
    cases z : ids[j]? with
    | some i =>
      have hi := hin i (List.mem_of_getElem? z)
      have ea : A[i]? = some A[i] := List.getElem?_eq_getElem hi
      have hj : j < (lent A ids).length := by rw [ll]; exact (List.getElem?_eq_some_iff.mp z).1
      rw [← hβ, List.getElem?_append_left hj, lent_get z ea] at h
      show (A ++ β)[i]? = some a
      rw [List.getElem?_append_left hi, ea]
      exact h
    | none =>
      have hj : ids.length ≤ j := List.getElem?_eq_none_iff.mp z
      rw [← hβ, List.getElem?_append_right (by rw [ll]; exact hj), ll] at h
      show (A ++ β)[m.length + (j - ids.length)]? = some a
      rw [List.getElem?_append_right (by rw [o.len]; omega), o.len, Nat.add_sub_cancel_left]
      exact h
  refine ⟨⟨n.sub, List.prefix_append _ _, fun a u z => ?_, fun a ha => ?_, fun a u z ha => n.keep a u z fun q => ha (inA a q)⟩, ⟨o'.sub, ?_, ?_, fun a ha => ?_, fun i a u h1 h2 => ?_⟩, key⟩
  · rcases n.fresh a u z with q | q | q
    · exact .inl q
    · exact .inr (.inl q)
    · exact .inr (.inr (inA a q))
  · rcases List.mem_append.mp ha with q | q
    · exact .inl q
    · exact .inr (newβ a q)
  · unfold putAll
    have lB := o'.len
    rw [← hβ, List.length_append, ll] at lB
    rw [List.length_append, List.length_append, putFrom_len, List.length_map, List.length_drop, o.len]
    omega
  · exact List.nodup_append.mpr ⟨o.nd, (List.nodup_append.mp ndB).2.1, fun a ha b hb q => notA b hb (q ▸ ha)⟩
  · rcases List.mem_append.mp ha with q | q
    · by_cases z : a ∈ lent A ids
      · exact o'.there a (by rw [← hβ]; exact List.mem_append_left _ z)
      · obtain ⟨u, z2⟩ := o.there a q
        exact ⟨u, n.keep a u z2 z⟩
    · exact o'.there a (by rw [← hβ]; exact List.mem_append_right _ q)
  · unfold putAll at h2
    by_cases hi : i < A.length
    · rw [List.getElem?_append_left hi] at h1
      rw [List.getElem?_append_left (by rw [putFrom_len, ← o.len]; exact hi)] at h2
      have em : m[i]? = some (m[i]'(by rw [← o.len]; exact hi)) := List.getElem?_eq_getElem _
      rw [putFrom_get em, Nat.zero_add] at h2
      cases z : ixOf ids i with
      | some j =>
        rw [z] at h2
        have hij := ixOf_get z
        have hj : j < ids.length := (List.getElem?_eq_some_iff.mp hij).1
        have es : sub'[j]? = some (sub'[j]'(by omega)) := List.getElem?_eq_getElem _
        simp only [es] at h2
        cases h2
        have eB : B[j]? = some a := by rw [← hβ, List.getElem?_append_left (by rw [ll]; exact hj)]; exact lent_get hij h1
        exact backM_rp key (o'.obj j a _ eB es)
      | none =>
        rw [z] at h2
        cases h2
        have nl : a ∉ lent A ids := fun q => by
          obtain ⟨i2, q1, q2⟩ := lent_mem hin q
          obtain ⟨l1, e1⟩ := List.getElem?_eq_some_iff.mp h1
          obtain ⟨l2, e2⟩ := List.getElem?_eq_some_iff.mp q2
          have : i = i2 := (List.getElem_inj o.nd).mp (e1.trans e2.symm)
          exact ixOf_none z (this ▸ q1)
        refine (o.obj i a _ h1 em).next n.sub (List.prefix_append _ _) (fun u q => n.keep a u q nl) fun fa => ?_
        cases q : F' a with
        | none => rfl
        | some u =>
          obtain ⟨w, tw⟩ := o.there a (List.mem_of_getElem? h1)
          rcases n.fresh a u q with y | y | y
          · rw [fa] at y; cases y
          · rw [tw] at y; cases y
          · exact absurd y nl
    · have hi' : A.length ≤ i := Nat.le_of_not_lt hi
      rw [List.getElem?_append_right hi'] at h1
      rw [List.getElem?_append_right (by rw [putFrom_len, ← o.len]; exact hi'), putFrom_len, ← o.len, List.getElem?_map, List.getElem?_drop] at h2
      cases z : sub'[ids.length + (i - A.length)]? with
      | none => rw [z] at h2; cases h2
      | some w =>
        rw [z] at h2
        cases h2
        have eB : B[ids.length + (i - A.length)]? = some a := by
          rw [← hβ, List.getElem?_append_right (by rw [ll]; omega), ll, Nat.add_sub_cancel_left]
          exact h1
        have := backM_rp key (o'.obj _ a _ eB z)
        rw [o.len]
        exact this
/-! ### calls -/
def vCall (vf : VF) (fa : VA) : VE := fun s => bM (fa s) fun ss m => callM vf ss m
section
variable {K : PySem.W.Frag} {W : WX} {X : Cx}
theorem call_got {np : Nat} {vf : VF} {F : Hp} {A : List Addr} {ρ : List (Option Sl)} {m : List MO} {σ : L2.St} {H : Hp} {vs : List V} {ss : List Sl} {Q : VK} (hl : vs.length = np) (w : Wd K F A ρ m σ H) (rs : RpSs K F A vs ss) (g : Got K W σ ρ F A H (rS K) (callM vf ss m) Q) : SpV K np vf vs H Q (WE W σ) := by
  unfold callM at g
  simp only at g
  generalize grow m 100 (owns ss) [] = ids at g
  split at g
  · rename_i hn
    split at g
    · rename_i as sub e1 e2
      split at g
      · rename_i o sub' ev
        split at g
        · rename_i hk
          refine ⟨hl, F, lent A ids, as, sub, objs_lent w.os hn e2, renSs_rp e1 rs, o, sub', ev, ?_⟩
          obtain ⟨oo, mm, ee, g⟩ := g
          cases ee
          cases o with
          | ok r =>
            intro F' B v H' n o' rv
            obtain ⟨n2, o2, key⟩ := objs_back w.os hn e2 n o' hk
            exact g F' _ v H' n2 (w.of n2.sub n2.pre o2) (backS_rp key rv)
          | ex C fs =>
            intro F' B d ws H' n o' rf hd
            obtain ⟨n2, o2, key⟩ := objs_back w.os hn e2 n o' hk
            exact g F' _ d ws H' n2 (w.of n2.sub n2.pre o2) rf hd
        · exact none_got g
      · exact none_got g
    · exact none_got g
  · exact none_got g
theorem le_call {np : Nat} {vf : VF} {fa : VA} (hn : ∀ s ss m, fa s = some (.ok ss, m) → ss.length = np) {σ : L2.St} {H : Hp} {Q : VK} (h : LE K W (vCall vf fa) σ H Q) : tCallS (SpV K np vf) (WE W) (LA K W fa) σ H Q := by
  obtain ⟨F, A, ρ, m, w, g⟩ := h
  refine ⟨F, A, ρ, m, w, ?_⟩
  match e : fa ⟨ρ, m⟩, g with
  | none, g => unfold vCall at g; rw [e] at g; exact none_got g
  | some (.ex C fs, m1), g =>
    unfold vCall at g
    rw [e] at g
    obtain ⟨_, _, z, g⟩ := g
    cases z
    exact ⟨_, _, rfl, g⟩
  | some (.ok ss, m1), g =>
    unfold vCall at g
    rw [e] at g
    have hl := hn _ _ _ e
    exact ⟨_, _, rfl, fun F1 A1 vs H1 n1 w1 rs => call_got (by rw [RpSs.length rs]; exact hl) w1 rs (Got.later g n1)⟩
end
/-- as many arguments as a list of rules has -/
theorem vnil_len : ∀ s ss m, vNil s = some (.ok ss, m) → ss.length = 0 := fun s ss m e => by cases e; rfl
theorem vcons_len {f : VE} {g : VA} {n : Nat} (h : ∀ s ss m, g s = some (.ok ss, m) → ss.length = n) : ∀ s ss m, vCons f g s = some (.ok ss, m) → ss.length = n + 1 := fun s ss m e => by
  unfold vCons bM at e
  split at e
  · cases e
  · rename_i a m1 _
    simp only at e
    split at e
    · cases e
    · rename_i as m2 z
      cases e
      rw [List.length_cons, h _ _ _ z]
    · cases e
  · cases e
section
variable {W : WX} {X : Cx}
theorem pe_vcall {np k : Nat} {f : Addr} {fd : FuncData} {ps : List Str} {vf : VF} {fa : VA} {x : Str} {e : Expr} {es : List Expr} {p pos : Pos} (F : FnOk X.prog X.w X.K X.mg X.base (L2.CX X.prog X.w) k f fd ps (SpV X.K np vf)) (hr : Room k X.A) (hg : Gl X x) (hm : X.mg x = some (.ref f)) (hk : PySem.W.keepIn X.K (.ref f) = true) (hb : Binds X.K fd ps []) (tk : Takes X W)
    (ha : PA X (e :: es) (LA X.K W fa)) (hn : ∀ s ss m, fa s = some (.ok ss, m) → ss.length = np) (hdb : (x == ("__debug__" : Str)) = false := by decide) (he : starEach (e :: es) X.env = (false, eval e X.env) :: starEach es X.env := by rfl) (hpl : (backTo pos (starEach es X.env)).any (·.1) = false := by rfl) :
    PE X (.Call (.Name x p) (e :: es) [] pos) (LE X.K W (vCall vf fa)) := PE.imp (pe_callS F hr hg hm hk hb (fun σ => passAt tk σ) ha hdb he hpl) fun _ _ _ => le_call hn
end
end Vs
end
section
/-! Vs8: operators, subscripts, slices, built-ins. -/
namespace Vs
open PySem PySem.Spec PyProof.Rows L2
variable [WW]
section
variable {K : PySem.W.Frag} {W : WX} {X : Cx}
theorem OpR.or {f : Value → Value → Sem Value} {r r' : R2} (h : OpR X f r) (h' : OpR X f r') : OpR X f (fun x y H Q => r x y H Q ∨ r' x y H Q) := fun pins s σ H x y v u Q I rx ry q => q.elim (h pins s σ H x y v u Q I rx ry) (h' pins s σ H x y v u Q I rx ry)
theorem CallR.or' {f : Value} {r r' : List V → Hp → VK → Prop} (h : CallR X f r) (h' : CallR X f r') : CallR X f (fun xs H Q => r xs H Q ∨ r' xs H Q) := fun pins s σ H xs us Q I rx q => q.elim (h pins s σ H xs us Q I rx) (h' pins s σ H xs us Q I rx)
/-! ### what is read as a list, as a tuple -/
def lstOf (s : Sl) (m : List MO) : Option (List T) := match s with
  | .val (.lst ts) => some ts
  | .own i => match m[i]? with
    | some (.lst ts) => some ts
    | _ => none
  | _ => none
theorem lstOf_at {F : Hp} {A : List Addr} {m : List MO} {H : Hp} {s : Sl} {x : V} {ts : List T} (o : Objs K F A m H) (r : RpS K F A x s) (e : lstOf s m = some ts) : ∃ a xs, x = .ref a ∧ H a = some (.lst xs) ∧ RpL K F xs ts := by
  unfold lstOf at e
  split at e
  · cases e
    cases r with
    | lst h q => exact ⟨_, _, rfl, o.sub _ _ h, q⟩
  · split at e
    · rename_i i _ ts' em
      cases e
      obtain ⟨a, ea, rfl⟩ := r
      obtain ⟨_, xs, h1, h2⟩ := o.obj i a _ ea em
      exact ⟨a, xs, rfl, h1, h2⟩
    · cases e
  · cases e
/-- a list, a tuple or what only is read as a list -/
def seqOf (s : Sl) (m : List MO) : Option (List T) := match lstOf s m with
  | some ts => some ts
  | none => match s with
    | .val (.tup ts) => some ts
    | .val (.seq ts) => some ts
    | _ => none
theorem seqOf_at {F : Hp} {A : List Addr} {m : List MO} {H : Hp} {s : Sl} {x : V} {ts : List T} (o : Objs K F A m H) (r : RpS K F A x s) (e : seqOf s m = some ts) : ∃ a xs, x = .ref a ∧ (SqL K H a xs ∨ SqT K H a xs) ∧ RpL K F xs ts := by
  unfold seqOf at e
  split at e
  · rename_i us eu
    cases e
    obtain ⟨a, xs, h1, h2, h3⟩ := lstOf_at o r eu
    exact ⟨a, xs, h1, .inl (SqL.of h2), h3⟩
  · split at e
    · cases e
      cases r with
      | tup h q => exact ⟨_, _, rfl, .inr (sqT_same o.sub h), q⟩
    · cases e
      cases r with
      | seq h q => exact ⟨_, _, rfl, .inl (o.sub.seq h), q⟩
    · cases e
/-! ### operators with a new list -/
abbrev relN (K : PySem.W.Frag) (H0 : Hp) : Hp → List Addr → Hp → V → List T → Prop := fun F' A' H' v ts => rN K F' A' H' v ts ∧ ∀ p, v = .ref p → H0 p = none
def OpVN (K : PySem.W.Frag) (r : R2) (g : Sl → Sl → List MO → M (List T)) : Prop :=
  ∀ (W : WX) (F0 F : Hp) (A0 A : List Addr) (ρ : List (Option Sl)) (m : List MO) (σ : L2.St) (H0 H : Hp) (x y : V) (a b : Sl) (Q : VK), Nxt F0 A0 H0 F A H → Wd K F A ρ m σ H → RpS K F A x a → RpS K F A y b → Got K W σ ρ F A H (relN K H0) (g a b m) Q → r x y H Q
def vBinN (g : Sl → Sl → List MO → M (List T)) (fa fb : VE) : VN := fun s => bM (fa s) fun a m1 => bM (fb ⟨s.ρ, m1⟩) fun b m2 => g a b m2
theorem le_binN {r : R2} {g : Sl → Sl → List MO → M (List T)} {fa fb : VE} (hv : OpVN K r g) {σ : L2.St} {H : Hp} {Q : VK} (h : LN K W (vBinN g fa fb) σ H Q) : tOp r (LE K W fa) (LE K W fb) σ H Q := by
  obtain ⟨F, A, ρ, m, w, got⟩ := h
  refine ⟨F, A, ρ, m, w, (Got.bind (R1 := rS K) got).mono fun x H1 z => ?_⟩
  obtain ⟨F1, A1, m1, a, n1, w1, ra, g1⟩ := z
  refine ⟨F1, A1, ρ, m1, w1, (Got.bind (R1 := rS K) g1).mono fun y H2 z => ?_⟩
  obtain ⟨F2, A2, m2, b, n2, w2, rb, g2⟩ := z
  exact hv W F F2 A A2 ρ m2 σ H H2 x y a b Q (n1.trans n2) w2 (ra.next n2.sub n2.pre) rb g2
theorem pe_vopN {op : Operator} {r : R2} {g : Sl → Sl → List MO → M (List T)} {a b : Expr} {fa fb : VE} {pos : Pos} (ho : OpR X (binaryOp op) r) (hv : OpVN X.K r g) (ha : PE X a (LE X.K W fa)) (hb : PE X b (LE X.K W fb)) : PE X (.BinOp a op b pos) (LN X.K W (vBinN g fa fb)) := PE.imp (pe_op ho ha hb) fun _ _ _ => le_binN hv
/-! ### + -/
def gAdd : Sl → Sl → List MO → M Sl
  | .val (.int i), .val (.int j), m => rM (.val (.int (i + j))) m
  | .val (.str x), .val (.str y), m => if x.length + y.length ≤ SZ then rM (.val (.str (x ++ y))) m else none
  | .val (.tup ts), .val (.tup us), m => if ts.length + us.length ≤ SZ then rM (.val (.tup (ts ++ us))) m else none
  | _, _, _ => none
abbrev rAdd (K : PySem.W.Frag) : R2 := fun x y H Q => (rI0 (fun i j => .int (i + j)) x y H Q ∨ (∃ i j, x = .str i ∧ y = .str j ∧ i.length + j.length ≤ sizeLine ∧ Q (.str (i ++ j)) H)) ∨ rCatA K x y H Q
theorem op_vadd : OpR X (binaryOp .Add) (rAdd X.K) := OpR.or (OpR.or op_add op_add_str) op_catA
theorem ov_add : OpV K (rAdd K) gAdd := by
  intro W F A ρ m σ H x y a b Q w ra rb g
  unfold gAdd at g
  split at g
  · cases ra; cases rb
    exact .inl (.inl ⟨_, _, rfl, rfl, g.now w (.int _)⟩)
  · split at g
    · rename_i h
      cases ra; cases rb
      exact .inl (.inr ⟨_, _, rfl, rfl, sz_le h, g.now w (.str _)⟩)
    · exact none_got g
  · split at g
    · rename_i ts us h
      cases ra with
      | tup h1 r1 =>
        cases rb with
        | tup h2 r2 =>
          have l1 := r1.length
          have l2 := r2.length
          refine .inr ⟨_, _, _, _, rfl, rfl, sqT_same w.os.sub h1, sqT_same w.os.sub h2, by rw [l1, l2]; exact sz_le h, fun e => ?_, fun e1 e2 => ?_, fun _ _ p np => ?_⟩
          · subst e
            cases r1
            exact g.now w (.tup h2 r2)
          · subst e2
            cases r2
            rw [List.append_nil] at g
            exact g.now w (.tup h1 r1)
          · have sN : ∀ o : HO, Same F (upd F p o) := fun o => same_new (w.os.fnone np)
            exact g.fin (Nxt.new w.os np) (w.of (sN _) (List.prefix_refl _) (w.os.new np)) (.tup (SqT.of upd_same) ((r1.append r2).same (sN _)))
    · exact none_got g
  · exact none_got g
theorem pe_vadd {a b : Expr} {fa fb : VE} {pos : Pos} (ha : PE X a (LE X.K W fa)) (hb : PE X b (LE X.K W fb)) : PE X (.BinOp a .Add b pos) (LE X.K W (vBin gAdd fa fb)) := pe_vop op_vadd ov_add ha hb
def gCat (a b : Sl) (m : List MO) : M (List T) := match lstOf a m, lstOf b m with
  | some ts, some us => if ts.length + us.length ≤ SZ then rM (ts ++ us) m else none
  | _, _ => none
theorem ov_cat : OpVN K rCat gCat := by
  intro W F0 F A0 A ρ m σ H0 H x y a b Q n w ra rb g
  unfold gCat at g
  split at g
  · rename_i ts us e1 e2
    split at g
    · rename_i h
      obtain ⟨p, xs, rfl, h1, r1⟩ := lstOf_at w.os ra e1
      obtain ⟨q, ys, rfl, h2, r2⟩ := lstOf_at w.os rb e2
      exact ⟨p, q, xs, ys, rfl, rfl, h1, h2, by rw [r1.length, r2.length]; exact sz_le h, fun l nl => new_list n g w nl (r1.append r2) (by rw [List.length_append]; exact h)⟩
    · exact none_got g
  · exact none_got g
theorem pe_vcat {a b : Expr} {fa fb : VE} {pos : Pos} (ha : PE X a (LE X.K W fa)) (hb : PE X b (LE X.K W fb)) : PE X (.BinOp a .Add b pos) (LN X.K W (vBinN gCat fa fb)) := pe_vopN op_cat ov_cat ha hb
/-! ### -, *, //, % -/
theorem pe_vsub {a b : Expr} {fa fb : VE} {pos : Pos} (ha : PE X a (LE X.K W fa)) (hb : PE X b (LE X.K W fb)) : PE X (.BinOp a .Sub b pos) (LE X.K W (vBin (gInt fun i j => .int (i - j)) fa fb)) := pe_vop op_sub (ov_int fun _ _ _ => .int _) ha hb
/-- ints, where c holds -/
def gIntC (c : Int → Int → Bool) (f : Int → Int → T) : Sl → Sl → List MO → M Sl
  | .val (.int i), .val (.int j), m => if c i j = true then rM (.val (f i j)) m else none
  | _, _, _ => none
theorem ov_intC {C : Int → Int → Prop} {c : Int → Int → Bool} {f : Int → Int → V} {f' : Int → Int → T} (hc : ∀ i j, c i j = true → C i j) (hf : ∀ F i j, Rp K F (f i j) (f' i j)) : OpV K (rI C f) (gIntC c f') := by
  intro W F A ρ m σ H x y a b Q w ra rb g
  unfold gIntC at g
  split at g
  · rename_i m' i j
    split at g
    · rename_i h
      cases ra
      cases rb
      exact ⟨i, j, rfl, rfl, hc i j h, g.now w (hf F i j)⟩
    · exact none_got g
  · exact none_got g
def cMul (i j : Int) : Bool := decide ((-(2 ^ 64) < i ∧ i < 2 ^ 64) ∨ (-(2 ^ 64) < j ∧ j < 2 ^ 64))
theorem cMul_ok (i j : Int) (h : cMul i j = true) : CMul i j := by
  unfold cMul at h
  have h2 := of_decide_eq_true h
  exact h2
theorem pe_vmul {a b : Expr} {fa fb : VE} {pos : Pos} (ha : PE X a (LE X.K W fa)) (hb : PE X b (LE X.K W fb)) : PE X (.BinOp a .Mult b pos) (LE X.K W (vBin (gIntC cMul fun i j => .int (i * j)) fa fb)) := pe_vop op_mul (ov_intC cMul_ok fun _ _ _ => .int _) ha hb
def cPos (_ j : Int) : Bool := decide (0 < j)
theorem pe_vmod {a b : Expr} {fa fb : VE} {pos : Pos} (ha : PE X a (LE X.K W fa)) (hb : PE X b (LE X.K W fb)) : PE X (.BinOp a .Mod b pos) (LE X.K W (vBin (gIntC cPos fun i j => .int (i % j)) fa fb)) := pe_vop op_mod (ov_intC (fun i j h => of_decide_eq_true (p := _) (by first | exact h)) fun _ _ _ => .int _) ha hb
def cDiv (_ j : Int) : Bool := decide (0 < j ∧ j < 1073741824)
theorem cDiv_ok (i j : Int) (h : cDiv i j = true) : CDiv i j := by
  unfold cDiv at h
  have h2 := of_decide_eq_true h
  exact h2
theorem pe_vdiv {a b : Expr} {fa fb : VE} {pos : Pos} (ha : PE X a (LE X.K W fa)) (hb : PE X b (LE X.K W fb)) : PE X (.BinOp a .FloorDiv b pos) (LE X.K W (vBin (gIntC cDiv fun i j => .int (i / j)) fa fb)) := pe_vop op_fdiv (ov_intC cDiv_ok fun _ _ _ => .int _) ha hb
/-! ### comparisons of ints -/
theorem pe_vlt {a b : Expr} {fa fb : VE} {pos : Pos} (ha : PE X a (LE X.K W fa)) (hb : PE X b (LE X.K W fb)) : PE X (.Compare a [.Lt] [b] pos) (LE X.K W (vBin (gInt fun i j => .bl (decide (i < j))) fa fb)) := pe_vcmp op_lt (ov_int fun _ _ _ => .bl _) ha hb (nobehind _ (by decide) (by decide))
theorem pt_vlt {a b : Expr} {fa fb : VE} {pos : Pos} (ha : PE X a (LE X.K W fa)) (hb : PE X b (LE X.K W fb)) : PT X (.Compare a [.Lt] [b] pos) (LT X.K W (vTest (vBin (gInt fun i j => .bl (decide (i < j))) fa fb))) := pt_vcmp op_lt (ov_int fun _ _ _ => .bl _) ha hb (nobehind _ (by decide) (by decide))
theorem pt_vle {a b : Expr} {fa fb : VE} {pos : Pos} (ha : PE X a (LE X.K W fa)) (hb : PE X b (LE X.K W fb)) : PT X (.Compare a [.LtE] [b] pos) (LT X.K W (vTest (vBin (gInt fun i j => .bl (decide (i ≤ j))) fa fb))) := pt_vcmp op_le (ov_int fun _ _ _ => .bl _) ha hb (nobehind _ (by decide) (by decide))
theorem pt_vgt {a b : Expr} {fa fb : VE} {pos : Pos} (ha : PE X a (LE X.K W fa)) (hb : PE X b (LE X.K W fb)) : PT X (.Compare a [.Gt] [b] pos) (LT X.K W (vTest (vBin (gInt fun i j => .bl (decide (j < i))) fa fb))) := pt_vcmp op_gt (ov_int fun _ _ _ => .bl _) ha hb (nobehind _ (by decide) (by decide))
theorem pt_vge {a b : Expr} {fa fb : VE} {pos : Pos} (ha : PE X a (LE X.K W fa)) (hb : PE X b (LE X.K W fb)) : PT X (.Compare a [.GtE] [b] pos) (LT X.K W (vTest (vBin (gInt fun i j => .bl (decide (j ≤ i))) fa fb))) := pt_vcmp op_ge (ov_int fun _ _ _ => .bl _) ha hb (nobehind _ (by decide) (by decide))
/-! ### ==, != of data -/
mutual
def toD : T → Option PyData
  | .non => some .none
  | .bl b => some (.bool b)
  | .int i => some (.int i)
  | .str x => some (.str x)
  | .lst ts => (toDs ts).map .list
  | .tup ts => (toDs ts).map .tuple
  | .seq ts => (toDs ts).map .list
  | _ => none
def toDs : List T → Option (List PyData)
  | [] => some []
  | t :: r => match toD t, toDs r with
    | some d, some ds => some (d :: ds)
    | _, _ => none
end
mutual
theorem rp_dp {F : Hp} {H : Hp} (e : Same F H) : ∀ {v : V} {t : T} {d : PyData}, Rp K F v t → toD t = some d → Dp K H v d
  | _, _, d, .non, h => by unfold toD at h; cases h; exact .non
  | _, _, d, .bl b, h => by unfold toD at h; cases h; exact .bl b
  | _, _, d, .int i, h => by unfold toD at h; cases h; exact .int i
  | _, _, d, .str x, h => by unfold toD at h; cases h; exact .str x
  | _, .lst ts, d, .lst a r, h => by
    unfold toD at h
    cases z : toDs ts with
    | none => rw [z] at h; cases h
    | some ds => rw [z] at h; cases h; exact .lst (SqL.of (e _ _ a)) (rpL_dp e r z)
  | _, .tup ts, d, .tup a r, h => by
    unfold toD at h
    cases z : toDs ts with
    | none => rw [z] at h; cases h
    | some ds => rw [z] at h; cases h; exact .tup (sqT_same e a) (rpL_dp e r z)
  | _, .seq ts, d, .seq a r, h => by
    unfold toD at h
    cases z : toDs ts with
    | none => rw [z] at h; cases h
    | some ds => rw [z] at h; cases h; exact .lst (e.seq a) (rpL_dp e r z)
  | _, _, d, .ins a r, h => by unfold toD at h; cases h
  | _, _, d, .cst v, h => by unfold toD at h; cases h
theorem rpL_dp {F : Hp} {H : Hp} (e : Same F H) : ∀ {vs : List V} {ts : List T} {ds : List PyData}, RpL K F vs ts → toDs ts = some ds → DpAll K H vs ds
  | _, _, ds, .nil, h => by unfold toDs at h; cases h; exact .nil
  | _, t :: r, ds, .cons a q, h => by
    unfold toDs at h
    split at h
    · rename_i d ds' h1 h2
      cases h
      exact .cons (rp_dp e a h1) (rpL_dp e q h2)
    · cases h
end
/-- a value as data, also a list object's -/
def datOf (s : Sl) (m : List MO) : Option PyData := match s with
  | .val t => toD t
  | .own i => match m[i]? with
    | some (.lst ts) => (toDs ts).map .list
    | _ => none
theorem datOf_dp {F : Hp} {A : List Addr} {m : List MO} {H : Hp} {s : Sl} {x : V} {d : PyData} (o : Objs K F A m H) (r : RpS K F A x s) (e : datOf s m = some d) : Dp K H x d := by
  cases s with
  | val t => exact rp_dp o.sub r e
  | own i =>
    obtain ⟨a, ea, rfl⟩ := r
    unfold datOf at e
    simp only at e
    split at e
    · rename_i ts em
      obtain ⟨_, xs, h1, h2⟩ := o.obj i a _ ea em
      cases z : toDs ts with
      | none => rw [z] at e; cases e
      | some ds => rw [z] at e; cases e; exact .lst (SqL.of h1) (rpL_dp o.sub h2 z)
    · cases e
def gDat (f : PyData → PyData → Bool) (a b : Sl) (m : List MO) : M Sl := match datOf a m, datOf b m with
  | some d, some e => if SeqAt.shaped d = true ∧ SeqAt.shaped e = true then rM (.val (.bl (f d e))) m else none
  | _, _ => none
theorem ov_eqD : OpV K (rEqD K) (gDat PyData.eqv) := by
  intro W F A ρ m σ H x y a b Q w ra rb g
  unfold gDat at g
  split at g
  · rename_i d e h1 h2
    split at g
    · rename_i h
      exact ⟨d, e, datOf_dp w.os ra h1, datOf_dp w.os rb h2, h.1, h.2, g.now w (.bl _)⟩
    · exact none_got g
  · exact none_got g
theorem ov_neD : OpV K (rNeD K) (gDat fun d e => !PyData.eqv d e) := by
  intro W F A ρ m σ H x y a b Q w ra rb g
  unfold gDat at g
  split at g
  · rename_i d e h1 h2
    split at g
    · rename_i h
      exact ⟨d, e, datOf_dp w.os ra h1, datOf_dp w.os rb h2, h.1, h.2, g.now w (.bl _)⟩
    · exact none_got g
  · exact none_got g
theorem pt_veq {a b : Expr} {fa fb : VE} {pos : Pos} (hu : X.A.units + 64 < cLine) (ha : PE X a (LE X.K W fa)) (hb : PE X b (LE X.K W fb)) : PT X (.Compare a [.Eq] [b] pos) (LT X.K W (vTest (vBin (gDat PyData.eqv) fa fb))) := pt_vcmp (op_eqD hu) ov_eqD ha hb (nobehind _ (by decide) (by decide))
theorem pt_vne {a b : Expr} {fa fb : VE} {pos : Pos} (hu : X.A.units + 64 < cLine) (ha : PE X a (LE X.K W fa)) (hb : PE X b (LE X.K W fb)) : PT X (.Compare a [.NotEq] [b] pos) (LT X.K W (vTest (vBin (gDat fun d e => !PyData.eqv d e) fa fb))) := pt_vcmp (op_neD hu) ov_neD ha hb (nobehind _ (by decide) (by decide))
theorem pe_veq {a b : Expr} {fa fb : VE} {pos : Pos} (hu : X.A.units + 64 < cLine) (ha : PE X a (LE X.K W fa)) (hb : PE X b (LE X.K W fb)) : PE X (.Compare a [.Eq] [b] pos) (LE X.K W (vBin (gDat PyData.eqv) fa fb)) := pe_vcmp (op_eqD hu) ov_eqD ha hb (nobehind _ (by decide) (by decide))
theorem pe_vne {a b : Expr} {fa fb : VE} {pos : Pos} (hu : X.A.units + 64 < cLine) (ha : PE X a (LE X.K W fa)) (hb : PE X b (LE X.K W fb)) : PE X (.Compare a [.NotEq] [b] pos) (LE X.K W (vBin (gDat fun d e => !PyData.eqv d e) fa fb)) := pe_vcmp (op_neD hu) ov_neD ha hb (nobehind _ (by decide) (by decide))
/-! ### x in seq: data in a list; what is flat in a list or a tuple -/
def flatT : T → Option V
  | .non => some .non
  | .bl b => some (.bl b)
  | .int i => some (.int i)
  | .str x => some (.str x)
  | _ => none
def flatTs : List T → Option (List V)
  | [] => some []
  | t :: r => match flatT t, flatTs r with
    | some v, some vs => some (v :: vs)
    | _, _ => none
theorem flatT_rp {F : Hp} {v u : V} {t : T} (r : Rp K F v t) (e : flatT t = some u) : v = u ∧ flatV u = true := by
  cases r <;> first | (cases e; exact ⟨rfl, rfl⟩) | cases e
theorem flatTs_rp {F : Hp} : ∀ {vs us : List V} {ts : List T}, RpL K F vs ts → flatTs ts = some us → vs = us ∧ us.all flatV = true
  | _, us, _, .nil, e => by cases e; exact ⟨rfl, rfl⟩
  | _, us, t :: r, .cons a q, e => by
    unfold flatTs at e
    split at e
    · rename_i v vs h1 h2
      cases e
      obtain ⟨e1, f1⟩ := flatT_rp a h1
      obtain ⟨e2, f2⟩ := flatTs_rp q h2
      rw [e1, e2, List.all_cons, f1, f2]
      exact ⟨rfl, rfl⟩
    · cases e
def gInFlat (neg : Bool) (a b : Sl) (m : List MO) : M Sl := match a, seqOf b m with
  | .val t, some ts => match flatT t, flatTs ts with
    | some v, some vs => rM (.val (.bl (if neg then !inV v vs else inV v vs))) m
    | _, _ => none
  | _, _ => none
theorem ov_inFlat {neg : Bool} : OpV K (rIn K neg) (gInFlat neg) := by
  intro W F A ρ m σ H x y a b Q w ra rb g
  unfold gInFlat at g
  split at g
  · rename_i t ts eb
    split at g
    · rename_i v vs h1 h2
      obtain ⟨p, xs, rfl, h3, h4⟩ := seqOf_at w.os rb eb
      obtain ⟨rfl, f1⟩ := flatT_rp ra h1
      obtain ⟨rfl, f2⟩ := flatTs_rp h4 h2
      exact ⟨p, _, rfl, h3, f1, f2, g.now w (.bl _)⟩
    · exact none_got g
  · exact none_got g
end
end Vs
end
section
/-! Vs9: targets, comprehensions, subscripts, slices, built-ins, more methods of lists. -/
namespace Vs
open PySem PySem.Spec PyProof.Rows L2
variable [WW]
section
variable {K : PySem.W.Frag} {W : WX} {X : Cx}
/-! ### targets of several names -/
def vgAll : List VG → List T → List (Option Sl) → Option (List (Option Sl))
  | [], [], ρ => some ρ
  | g :: gs, t :: ts, ρ => match g t ρ with
    | some ρ' => vgAll gs ts ρ'
    | none => none
  | _, _, _ => none
def vgTup (gs : List VG) : VG := fun t ρ => match t with
  | .tup ts => vgAll gs ts ρ
  | _ => none
def LGs (K : PySem.W.Frag) (L : List Nat) (gs : List VG) : TGs := fun vs σ H Q => ∃ F A ρ m ts ρ', Wd K F A ρ m σ H ∧ RpL K F vs ts ∧ vgAll gs ts ρ = some ρ' ∧ ∀ σ', Wd K F A ρ' m σ' H → Sam L σ σ' → Q σ' H
theorem Sam.app {L M : List Nat} {σ σ1 σ2 : L2.St} (a : Sam L σ σ1) (b : Sam M σ1 σ2) : Sam (L ++ M) σ σ2 := ⟨b.1.trans a.1, fun j hj => (b.2 j fun z => hj (List.mem_append_right _ z)).trans (a.2 j fun z => hj (List.mem_append_left _ z))⟩
theorem vgAll_len : ∀ {gs : List VG} {ts : List T} {ρ ρ' : List (Option Sl)}, vgAll gs ts ρ = some ρ' → ts.length = gs.length
  | [], [], _, _, _ => rfl
  | g :: gs, t :: ts, ρ, ρ', e => by
    unfold vgAll at e
    split at e
    · rw [List.length_cons, List.length_cons, vgAll_len e]
    · cases e
  | [], t :: ts, _, _, e => by cases e
  | g :: gs, [], _, _, e => by cases e
theorem PGs.imp {es : List Expr} {t t' : TGs} (h : PGs X es t) (k : ∀ vs σ H Q, t' vs σ H Q → t vs σ H Q) : PGs X es t' := ⟨fun vs us pins s σ H Q I r z => h.run vs us pins s σ H Q I r (k _ _ _ _ z)⟩
theorem pgs_vnil : PGs X [] (LGs X.K [] []) := PGs.imp pgs_nil fun vs σ H Q ⟨F, A, ρ, m, ts, ρ', w, r, e, k⟩ => by
  cases r with
  | nil => cases e; exact ⟨rfl, k _ w Sam.refl⟩
  | cons a b => cases e
theorem pgs_vcons {e : Expr} {es : List Expr} {g : VG} {gs : List VG} {L M : List Nat} (h1 : PG X e (LG X.K L g)) (h2 : PGs X es (LGs X.K M gs)) (hc : (assignEach (e :: es) X.env).map (·.2) = assign e X.env :: (assignEach es X.env).map (·.2) := by rfl) : PGs X (e :: es) (LGs X.K (L ++ M) (g :: gs)) := PGs.imp (pgs_cons h1 h2 hc) fun vs σ H Q ⟨F, A, ρ, m, ts, ρ', w, r, e, k⟩ => by
  cases r with
  | nil => cases e
  | @cons v vs t ts a b =>
    unfold vgAll at e
    split at e
    · rename_i ρ1 e1
      exact ⟨v, vs, rfl, F, A, ρ, m, t, ρ1, w, a, e1, fun σ' w' s1 => ⟨F, A, ρ1, m, ts, ρ', w', b, e, fun σ2 w2 s2 => k σ2 w2 (s1.app s2)⟩⟩
    · cases e
theorem pg_vtup {es : List Expr} {k : Nat} {pos : Pos} {gs : List VG} {L : List Nat} (hc : X.calm = true) (h : PGs X es (LGs X.K L gs)) (hn : (assignEach es X.env).length = gs.length := by rfl) (hst : (assignEach es X.env).findIdx? (·.1) = none := by rfl) : PG X (.Tuple es k pos) (LG X.K L (vgTup gs)) := PG.imp (pg_tup hc h hn hst) fun v σ H Q ⟨F, A, ρ, m, t, ρ', w, r, e, k⟩ => by
  unfold vgTup at e
  split at e
  · rename_i ts
    cases r with
    | tup hq rl => exact ⟨_, _, rfl, sqT_same w.os.sub hq, by rw [rl.length]; exact vgAll_len e, F, A, ρ, m, ts, ρ', w, rl, e, k⟩
  · cases e
/-- a, b = e: a tuple taken apart -/
def vSetG (g : VG) (f : VE) : VS := fun s => bS s.ρ (f s) fun r m => match r with
  | .val t => match g t s.ρ with
    | some ρ' => some (.nx, ⟨ρ', m⟩)
    | none => none
  | _ => none
theorem ps_vsetG {tg e : Expr} {g : VG} {f : VE} {pos : Pos} (he : PE X e (LE X.K W f)) {L : List Nat} (hg : PG X tg (LG X.K L g)) (hs : swapsWithSole [tg] e pos.line X.env = pure false := by rfl) (hw : swappedStores [tg] e X.env = pure none := by rfl) (hx : (assignEach [tg] X.env).map (·.2) = [assign tg X.env] := by rfl) : PS X (.Assign [tg] e pos) (LS X.K W (vSetG g f)) := PS.imp (ps_asg he hg hs hw hx) fun D σ H ⟨F, A, ρ, m, w, r⟩ =>
  ⟨F, A, ρ, m, w, (Ran.bS (rS X.K) r).mono fun b H1 ⟨F1, A1, m1, a, n, w1, ra, q⟩ => by
    split at q
    · rename_i t
      split at q
      · rename_i ρ' e1
        exact ⟨F1, A1, ρ, m1, t, ρ', w1, ra, e1, fun σ' w' _ => q.nx w'⟩
      · obtain ⟨_, _, z, _⟩ := q; cases z
    · obtain ⟨_, _, z, _⟩ := q; cases z⟩
/-! ### comprehensions of one clause -/
def wipeS (ρ : List (Option Sl)) : List Nat → List (Option Sl)
  | [] => ρ
  | v :: vs => (wipeS ρ vs).set v none
theorem wd_wipe {F : Hp} {A : List Addr} {ρ : List (Option Sl)} {m : List MO} {σ : L2.St} {H : Hp} (w : Wd K F A ρ m σ H) : ∀ vs, Wd K F A (wipeS ρ vs) m (wipe σ vs) H
  | [] => w
  | v :: vs => by
    have ih := wd_wipe w vs
    unfold wipeS wipe
    refine ⟨ih.os, fun i r e => ?_, by rw [List.length_set, List.length_set]; exact ih.slen⟩
    by_cases z : v = i
    · subst z
      have hl : v < (wipeS ρ vs).length := by
        have := (List.getElem?_eq_some_iff.mp e).1
        rw [List.length_set] at this
        exact this
      rw [List.getElem?_set_self hl] at e
      cases e
    · rw [List.getElem?_set_ne z] at e
      obtain ⟨v', h1, h2⟩ := ih.slot i r e
      exact ⟨v', by rw [List.getElem?_set_ne z]; exact h1, h2⟩
def vColl (g : VG) (tt : VT) (te : VE) (ρ : List (Option Sl)) : List T → List MO → List T → M (List T)
  | [], m, acc => rM acc m
  | t :: r, m, acc => match g t ρ with
    | none => none
    | some ρ1 => match tt ⟨ρ1, m⟩ with
      | some (.ok true, m1) => match te ⟨ρ1, m1⟩ with
        | some (.ok (.val u), m2) => if acc.length < SZ then vColl g tt te ρ r m2 (acc ++ [u]) else none
        | _ => none
      | some (.ok false, m1) => vColl g tt te ρ r m1 acc
      | _ => none
def vComp (vs : List Nat) (it : VI) (g : VG) (tt : VT) (te : VE) : VN := fun s => bM (it s) fun ts m => vColl g tt te (wipeS s.ρ vs) ts m []
abbrev W0 : WX := fun _ _ _ _ => False
def vYes : VT := fun s => rM true s.m
theorem lt_yes {σ : L2.St} {H : Hp} {Q : Bool → Hp → Prop} (h : LT K W vYes σ H Q) : tYes σ H Q := by
  obtain ⟨F, A, ρ, m, w, g⟩ := h
  exact g.now w rfl
theorem PTs.imp {es : List Expr} {t t' : TT} (h : PTs X es t) (k : ∀ σ H Q, t' σ H Q → t σ H Q) : PTs X es t' := ⟨fun pins s σ H Q I z => h.run pins s σ H Q I (k _ _ _ z)⟩
theorem pts_vnil : PTs X [] (LT K W vYes) := PTs.imp pts_nil fun _ _ _ => lt_yes
/-- the list in the making is nobody's -/
theorem Objs.off {F : Hp} {A : List Addr} {m : List MO} {H : Hp} {D : Addr} {o : HO} (h : Objs K F A m H) (fD : F D = none) (nD : D ∉ A) : Objs K F A m (upd H D o) where
  sub := fun b u e => by
    have ne : b ≠ D := fun z => by rw [z, fD] at e; cases e
    rw [upd_ne ne]; exact h.sub b u e
  len := h.len
  nd := h.nd
  there := fun a ha => by
    obtain ⟨u, e⟩ := h.there a ha
    have ne : a ≠ D := fun z => nD (z ▸ ha)
    exact ⟨u, by rw [upd_ne ne]; exact e⟩
  obj := fun i a u h1 h2 => by
    have ne : a ≠ D := fun z => nD (z ▸ List.mem_of_getElem? h1)
    exact (h.obj i a u h1 h2).next (Same.refl _) (List.prefix_refl _) (fun o e => by rw [upd_ne ne]; exact e) id
theorem wipe_in {σ : L2.St} {j : Nat} : ∀ {vs : List Nat}, j ∈ vs → (wipe σ vs)[j]? = if j < σ.length then some none else none
  | v :: vs, h => by
    unfold wipe
    by_cases z : v = j
    · subst z
      rw [List.getElem?_set, wipe_length]
      simp
    · rw [List.getElem?_set_ne z]
      rcases List.mem_cons.mp h with q | q
      · exact absurd q.symm z
      · exact wipe_in q
theorem wipe_sam {vs L : List Nat} {σ σ' : L2.St} (h : ∀ i ∈ L, i ∈ vs) (s : Sam L (wipe σ vs) σ') : wipe σ' vs = wipe σ vs := by
  have hl : σ'.length = σ.length := s.1.trans (wipe_length σ vs)
  refine List.ext_getElem? fun j => ?_
  by_cases q : j ∈ vs
  · rw [wipe_in q, wipe_in q, hl]
  · rw [wipe_out q, wipe_out q, s.2 j fun z => q (h j z), wipe_out q]
theorem Nxt.offD {F F5 : Hp} {A A5 : List Addr} {H H5 : Hp} {D : Addr} {o : HO} (n : Nxt F A H F5 A5 H5) (hD : H D = none) : Nxt F A H F5 A5 (upd H5 D o) :=
  ⟨n.sub, n.pre, n.fresh, n.news, fun a u e ha => by rw [upd_ne (ne_of_none e hD)]; exact n.keep a u e ha⟩
theorem le_comp {vs L : List Nat} (hL : ∀ i ∈ L, i ∈ vs) {it : VI} {g : VG} {tt : VT} {te : VE} {σ : L2.St} {H : Hp} {Q : VK} (h : LN K W (vComp vs it g tt te) σ H Q) :
    tLc (LI K W it) (LG K L g) (LT K W0 tt) (LE K W0 te) vs σ H Q := by
  obtain ⟨F, A, ρ, m, w, got⟩ := h
  refine ⟨F, A, ρ, m, w, ?_⟩
  unfold vComp at got
  match e : it ⟨ρ, m⟩, got with
  | none, got => exact none_got (show Got K W σ ρ F A H _ none Q from got)
  | some (.ex C fs, m1), got =>
    obtain ⟨_, _, z, got⟩ := got
    cases z
    exact ⟨_, _, rfl, got⟩
  | some (.ok ts, m1), got =>
  have got : Got K W σ ρ F A H (relN K H) (vColl g tt te (wipeS ρ vs) ts m1 []) Q := got
  refine ⟨_, _, rfl, fun F1 A1 J H1 n1 w1 wk D hD => ?_⟩
  have hD0 : H D = none := n1.back w1.os hD
  refine ⟨fun i k G => ∃ F' A' m' acc xs, Nxt F A H F' A' G ∧ Nxt F1 A1 H1 F' A' G ∧ F' D = none ∧ D ∉ A' ∧ Wd K F' A' ρ m' σ G ∧ G D = some (.lst xs) ∧ RpL K F' xs acc ∧ acc.length ≤ SZ ∧ i ≤ ts.length ∧ k = ts.length - i ∧
      Got K W σ ρ F A H (relN K H) (vColl g tt te (wipeS ρ vs) (ts.drop i) m' acc) Q, ⟨ts.length, F1, A1, m1, [], [], n1.offD hD0, Nxt.offD Nxt.refl hD, w1.os.fnone hD, w1.os.notin hD, w1.of (Same.refl _) (List.prefix_refl _) (w1.os.keep hD), upd_same, .nil, Nat.zero_le _, Nat.zero_le _, rfl, got⟩, ?_⟩
  rintro i k G ⟨F', A', m', acc, xs, n', n1', fD, nD, w', eD, racc, hacc, hi, rfl, q'⟩
  have wk' := wk F' A' G m' n1'.sub w'.os i
  by_cases e : i < ts.length
  · have et : ts[i]? = some ts[i] := List.getElem?_eq_getElem e
    have ed : ts.drop i = ts[i] :: ts.drop (i + 1) := List.drop_eq_getElem_cons e
    obtain ⟨go, yl⟩ := wk'.1 _ et
    refine .inr ⟨go, fun G2 => ∃ F2 A2 m2 acc2 xs2, Nxt F A H F2 A2 G2 ∧ Nxt F1 A1 H1 F2 A2 G2 ∧ F2 D = none ∧ D ∉ A2 ∧ Wd K F2 A2 ρ m2 σ G2 ∧ G2 D = some (.lst xs2) ∧ RpL K F2 xs2 acc2 ∧ acc2.length ≤ SZ ∧
      Got K W σ ρ F A H (relN K H) (vColl g tt te (wipeS ρ vs) (ts.drop (i + 1)) m2 acc2) Q, fun G2 ⟨F2, A2, m2, acc2, xs2, z⟩ => ⟨ts.length - (i + 1), by omega, F2, A2, m2, acc2, xs2, z.1, z.2.1, z.2.2.1, z.2.2.2.1, z.2.2.2.2.1, z.2.2.2.2.2.1, z.2.2.2.2.2.2.1, z.2.2.2.2.2.2.2.1, e, rfl, z.2.2.2.2.2.2.2.2⟩, fun x G3 y => ?_⟩
    obtain ⟨F3, n3, o3, rx⟩ := yl x G3 y
    rw [ed] at q'
    unfold vColl at q'
    have w3 : Wd K F3 A' ρ m' σ G3 := w'.of n3.sub (List.prefix_refl _) o3
    have off : ∀ {Fa Fb : Hp} {Aa Ab : List Addr} {Ha Hb : Hp}, Nxt Fa Aa Ha Fb Ab Hb → Fa D = none → D ∉ Aa → Ha D = some (.lst xs) → Fb D = none ∧ D ∉ Ab ∧ Hb D = some (.lst xs) := fun {Fa Fb Aa Ab Ha Hb} n f a h => by
      refine ⟨?_, fun z => ?_, n.keep D _ h a⟩
      · cases q : Fb D with
        | none => rfl
        | some u =>
          rcases n.fresh D u q with y | y | y
          · rw [f] at y; cases y
          · rw [h] at y; cases y
          · exact absurd y a
      · rcases n.news D z with y | y
        · exact a y
        · rw [h] at y; cases y
    obtain ⟨fD3, nD3, eD3⟩ := off n3 fD nD eD
    match eg : g ts[i] (wipeS ρ vs), q' with
    | none, q' => simp only [eg] at q'; exact none_got q'
    | some ρ1, q' =>
      simp only [eg] at q'
      refine ⟨F3, A', _, m', _, ρ1, wd_wipe w3 vs, rx, eg, fun σ' w4 sam => ⟨wipe_sam hL sam, F3, A', ρ1, m', w4, ?_⟩⟩
      match eb : tt ⟨ρ1, m'⟩, q' with
      | none, q' => simp only [eb] at q'; exact none_got q'
      | some (.ex C fs, m2), q' => simp only [eb] at q'; exact none_got q'
      | some (.ok false, m2), q' =>
        simp only [eb] at q'
        refine ⟨_, _, rfl, fun F4 A4 b H4 n4 w5 rb => ?_⟩
        cases rb
        obtain ⟨fD4, nD4, eD4⟩ := off n4 fD3 nD3 eD3
        rw [if_neg Bool.false_ne_true]
        have n34 := n3.trans n4
        exact ⟨F4, A4, m2, acc, xs, n'.trans n34, n1'.trans n34, fD4, nD4, w'.of n34.sub n34.pre w5.os, eD4, racc.same n34.sub, hacc, q'⟩
      | some (.ok true, m2), q' =>
        simp only [eb] at q'
        refine ⟨_, _, rfl, fun F4 A4 b H4 n4 w5 rb => ?_⟩
        cases rb
        obtain ⟨fD4, nD4, eD4⟩ := off n4 fD3 nD3 eD3
        rw [if_pos rfl]
        refine ⟨F4, A4, ρ1, m2, w5, ?_⟩
        match ee : te ⟨ρ1, m2⟩, q' with
        | none, q' => simp only [ee] at q'; exact none_got q'
        | some (.ex C fs, m3), q' => simp only [ee] at q'; exact none_got q'
        | some (.ok (.own j), m3), q' => simp only [ee] at q'; exact none_got q'
        | some (.ok (.val u), m3), q' =>
          simp only [ee] at q'
          split at q'
          · rename_i hz
            refine ⟨_, _, rfl, fun F5 A5 y5 H5 n5 w6 ry => ?_⟩
            obtain ⟨fD5, nD5, eD5⟩ := off n5 fD4 nD4 eD4
            have n35 := (n3.trans n4).trans n5
            refine ⟨xs, eD5, by rw [racc.length]; exact sz_lt hz, F5, A5, m3, acc ++ [u], xs ++ [y5], (n'.trans n35).offD hD0, (n1'.trans n35).offD hD, fD5, nD5, w'.of n35.sub n35.pre (w6.os.off fD5 nD5), upd_same, (racc.same n35.sub).append (.cons ry .nil), by rw [List.length_append]; exact hz, q'⟩
          · exact none_got q'
  · have ei : i = ts.length := by omega
    refine .inl ⟨wk'.2 (by omega), ?_⟩
    rw [List.drop_eq_nil_of_le (by omega)] at q'
    exact q'.fin n' w' ⟨⟨D, xs, rfl, fD, nD, eD, racc, hacc⟩, fun p ep => by cases ep; exact hD0⟩
theorem pe_vcomp {elt tg iter : Expr} {ifs : List Expr} {scope : Scope} (own : List (Str × Nat)) {pos : Pos} {it : VI} {L : List Nat} {g : VG} {tt : VT} {te : VE} (hL : ∀ i ∈ L, i ∈ own.map (·.2)) (hc : X.calm = true) (hN : X.N.Nodup) (hi : PI X tg iter (LI X.K W it)) (ok : BlkOk X.N X.env.scope scope own)
    (hg : ∀ (s : Shared) (H : Hp) (C : Addr) (cl : List (Str × Addr)) (fp : List Addr), PG (X.blk s H scope (compEnvC scope cl C X.env) fp) tg (LG X.K L g)) (ht : ∀ (s : Shared) (H : Hp) (C : Addr) (cl : List (Str × Addr)) (fp : List Addr), PTs (X.blk s H scope (compEnvC scope cl C X.env) fp) ifs (LT X.K W0 tt))
    (he : ∀ (s : Shared) (H : Hp) (C : Addr) (cl : List (Str × Addr)) (fp : List Addr), PE (X.blk s H scope (compEnvC scope cl C X.env) fp) elt (LE X.K W0 te)) (hs : ∀ x, foldedSetIterable iter X.env x = pure x := by intro _; rfl) :
    PE X (.ListComp elt [⟨tg, iter, ifs, 0⟩] scope pos) (LN X.K W (vComp (own.map (·.2)) it g tt te)) := PE.imp (pe_lc hc hN hi ok hg ht he hs) fun _ _ _ => le_comp hL
end
end Vs
end
section
/-! Vs10: in, is None, subscripts, slices, built-in functions. -/
namespace Vs
open PySem PySem.Spec PyProof.Rows L2
variable [WW]
section
variable {K : PySem.W.Frag} {W : WX} {X : Cx}
/-! ### in, not in -/
theorem pt_vinF {a b : Expr} {fa fb : VE} {pos : Pos} (hm : behindInMarks .In b = false) (ha : PE X a (LE X.K W fa)) (hb : PE X b (LE X.K W fb)) : PT X (.Compare a [.In] [b] pos) (LT X.K W (vTest (vBin (gInFlat false) fa fb))) := pt_vcmp op_in_seq ov_inFlat ha hb hm
theorem pt_vnotInF {a b : Expr} {fa fb : VE} {pos : Pos} (hm : behindInMarks .NotIn b = false) (ha : PE X a (LE X.K W fa)) (hb : PE X b (LE X.K W fb)) : PT X (.Compare a [.NotIn] [b] pos) (LT X.K W (vTest (vBin (gInFlat true) fa fb))) := pt_vcmp op_notIn_seq ov_inFlat ha hb hm
theorem pe_vinF {a b : Expr} {fa fb : VE} {pos : Pos} (hm : behindInMarks .In b = false) (ha : PE X a (LE X.K W fa)) (hb : PE X b (LE X.K W fb)) : PE X (.Compare a [.In] [b] pos) (LE X.K W (vBin (gInFlat false) fa fb)) := pe_vcmp op_in_seq ov_inFlat ha hb hm
/-- data in a list of data -/
def gInD (neg : Bool) (a b : Sl) (m : List MO) : M Sl := match datOf a m, datOf b m with
  | some d, some (.list ds) => if SeqAt.shaped d = true ∧ SeqAt.shaped (.list ds) = true then rM (.val (.bl (if neg then !ds.any fun z => PyData.eqv z d else ds.any fun z => PyData.eqv z d))) m else none
  | _, _ => none
theorem ov_inD : OpV K (rInD K) (gInD false) := by
  intro W F A ρ m σ H x y a b Q w ra rb g
  unfold gInD at g
  split at g
  · rename_i d ds h1 h2
    split at g
    · rename_i h
      exact ⟨d, ds, datOf_dp w.os ra h1, datOf_dp w.os rb h2, h.1, h.2, g.now w (.bl _)⟩
    · exact none_got g
  · exact none_got g
theorem ov_notInD : OpV K (rNotInD K) (gInD true) := by
  intro W F A ρ m σ H x y a b Q w ra rb g
  unfold gInD at g
  split at g
  · rename_i d ds h1 h2
    split at g
    · rename_i h
      exact ⟨d, ds, datOf_dp w.os ra h1, datOf_dp w.os rb h2, h.1, h.2, g.now w (.bl _)⟩
    · exact none_got g
  · exact none_got g
theorem pt_vinD {a b : Expr} {fa fb : VE} {pos : Pos} (hu : X.A.units + 65 < cLine) (hm : behindInMarks .In b = false) (ha : PE X a (LE X.K W fa)) (hb : PE X b (LE X.K W fb)) : PT X (.Compare a [.In] [b] pos) (LT X.K W (vTest (vBin (gInD false) fa fb))) := pt_vcmp (op_inD hu) ov_inD ha hb hm
theorem pt_vnotInD {a b : Expr} {fa fb : VE} {pos : Pos} (hu : X.A.units + 65 < cLine) (hm : behindInMarks .NotIn b = false) (ha : PE X a (LE X.K W fa)) (hb : PE X b (LE X.K W fb)) : PT X (.Compare a [.NotIn] [b] pos) (LT X.K W (vTest (vBin (gInD true) fa fb))) := pt_vcmp (op_notInD hu) ov_notInD ha hb hm
/-! ### is None -/
def gIsN (neg : Bool) (s : Sl) (m : List MO) : M Sl := match s with
  | .val .non => rM (.val (.bl (!neg))) m
  | .val (.cst _) => none
  | _ => rM (.val (.bl neg)) m
theorem isN_of {F : Hp} {A : List Addr} {x : V} {s : Sl} {neg : Bool} {m : List MO} {r : Sl} (rx : RpS K F A x s) (e : gIsN neg s m = rM r m) : r = .val (.bl (if neg then !decide (x = .non) else decide (x = .non))) := by
  unfold gIsN at e
  split at e
  · cases e
    cases rx
    cases neg <;> rfl
  · cases e
  · rename_i h1 h2
    cases e
    have ne : x ≠ .non := by
      cases s with
      | val t =>
        cases rx with
        | non => exact absurd rfl h1
        | cst => exact absurd rfl (h2 _)
        | _ => exact fun z => by cases z
      | own i => obtain ⟨a, _, rfl⟩ := rx; exact fun z => by cases z
    rw [decide_eq_false ne]
    cases neg <;> rfl
def vIsN (neg : Bool) (f : VE) : VE := fun s => bM (f s) (gIsN neg)
theorem gIsN_some (neg : Bool) (s : Sl) (m : List MO) : gIsN neg s m = none ∨ ∃ r, gIsN neg s m = rM r m := by
  unfold gIsN
  split
  · exact .inr ⟨_, rfl⟩
  · exact .inl rfl
  · exact .inr ⟨_, rfl⟩
theorem le_isN {neg : Bool} {f : VE} {σ : L2.St} {H : Hp} {Q : VK} (h : LE K W (vIsN neg f) σ H Q) : LE K W f σ H fun x H1 => Q (.bl (if neg then !decide (x = .non) else decide (x = .non))) H1 := by
  obtain ⟨F, A, ρ, m, w, got⟩ := h
  refine ⟨F, A, ρ, m, w, (Got.bind (R1 := rS K) got).mono fun x H1 ⟨F1, A1, m1, a, n1, w1, ra, q⟩ => ?_⟩
  rcases gIsN_some neg a m1 with e | ⟨r, e⟩
  · rw [e] at q; exact none_got q
  · rw [e] at q
    have e2 := isN_of ra e
    rw [e2] at q
    exact q.now w1 (.bl _)
theorem pe_visN {a : Expr} {f : VE} {pos pos' : Pos} {j : Nat} (ha : PE X a (LE K W f)) : PE X (.Compare a [.Is] [.Constant .none j pos'] pos) (LE K W (vIsN false f)) := PE.imp (pe_cmp (pc_isN ha)) fun _ _ _ h => le_isN h
theorem pe_vnotN {a : Expr} {f : VE} {pos pos' : Pos} {j : Nat} (ha : PE X a (LE K W f)) : PE X (.Compare a [.IsNot] [.Constant .none j pos'] pos) (LE K W (vIsN true f)) := PE.imp (pe_cmp (pc_notN ha)) fun _ _ _ h => le_isN h
theorem tB_isN {neg : Bool} {f : VE} {σ : L2.St} {H : Hp} {Q : Bool → Hp → Prop} (h : LT K W (vTest (vIsN neg f)) σ H Q) : tB (LE K W (vIsN neg f)) σ H Q := lt_test h
theorem pt_visN {a : Expr} {f : VE} {pos pos' : Pos} {j : Nat} (ha : PE X a (LE K W f)) : PT X (.Compare a [.Is] [.Constant .none j pos'] pos) (LT K W (vTest (vIsN false f))) := PT.imp (pt_cmp (pc_isN ha)) fun σ H Q h => le_isN (lt_test h)
theorem pt_vnotN {a : Expr} {f : VE} {pos pos' : Pos} {j : Nat} (ha : PE X a (LE K W f)) : PT X (.Compare a [.IsNot] [.Constant .none j pos'] pos) (LT K W (vTest (vIsN true f))) := PT.imp (pt_cmp (pc_notN ha)) fun σ H Q h => le_isN (lt_test h)
/-! ### subscripts -/
theorem atI_rp {F : Hp} {xs : List V} {ts : List T} {i : Int} {t : T} (r : RpL K F xs ts) (e : atI ts i = some t) : ∃ v, atI xs i = some v ∧ Rp K F v t := by
  unfold atI at e ⊢
  rw [r.length]
  cases z : ixN ts.length i with
  | none => rw [z] at e; cases e
  | some j =>
    rw [z] at e
    obtain ⟨v, h1, h2⟩ := RpL.get r (t := t) e
    exact ⟨v, h1, h2⟩
def gIx (a b : Sl) (m : List MO) : M Sl := match b with
  | .val (.int i) => match seqOf a m with
    | some ts => match atI ts i with
      | some t => rM (.val t) m
      | none => none
    | none => match a with
      | .val (.str z) => if z.length ≤ SZ then match atI z.cps.toList i with
        | some c => rM (.val (.str ⟨#[c]⟩)) m
        | none => none
        else none
      | _ => none
  | _ => none
theorem ov_ix : OpV K (rIx K) gIx := by
  intro W F A ρ m σ H x y a b Q w ra rb g
  unfold gIx at g
  split at g
  · rename_i i
    cases rb
    split at g
    · rename_i ts e
      split at g
      · rename_i t et
        obtain ⟨p, xs, rfl, h1, h2⟩ := seqOf_at w.os ra e
        obtain ⟨v, h3, h4⟩ := atI_rp h2 et
        rcases h1 with h1 | h1
        · exact .inl ⟨p, xs, i, v, rfl, rfl, h1, h3, g.now w h4⟩
        · exact .inr (.inl ⟨p, xs, i, v, rfl, rfl, h1, h3, g.now w h4⟩)
      · exact none_got g
    · split at g
      · split at g
        · rename_i hz
          split at g
          · rename_i c ec
            cases ra
            exact .inr (.inr ⟨_, i, c, rfl, rfl, sz_le hz, ec, g.now w (.str _)⟩)
          · exact none_got g
        · exact none_got g
      · exact none_got g
  · exact none_got g
theorem pe_vix {a b : Expr} {fa fb : VE} {pos : Pos} (hs : PlainIx b) (ha : PE X a (LE X.K W fa)) (hb : PE X b (LE X.K W fb)) : PE X (.Subscript a b pos) (LE X.K W (vBin gIx fa fb)) := PE.imp (pe_ix ix_seq ha hb hs) fun _ _ _ => le_bin ov_ix
/-! ### slices -/
abbrev VP := S → M (Option Int)
def LP (K : PySem.W.Frag) (W : WX) (f : VP) : TO := fun σ H Q => ∃ F A ρ m, Wd K F A ρ m σ H ∧ Got K W σ ρ F A H (fun _ _ _ b c => b = c) (f ⟨ρ, m⟩) Q
def vNoPart : VP := fun s => rM none s.m
def gPart (s : Sl) (m : List MO) : M (Option Int) := match s with
  | .val (.int i) => rM (some i) m
  | _ => none
def vPart (f : VE) : VP := fun s => bM (f s) gPart
theorem po_vnone : PO X none (LP K W vNoPart) := ⟨fun pins s σ H Q I ⟨F, A, ρ, m, w, g⟩ => po_none.run pins s σ H Q I (Got.now (R2 := fun _ _ _ b c => b = c) g w rfl)⟩
theorem po_vsome {e : Expr} {f : VE} (h : PE X e (LE K W f)) : PO X (some e) (LP K W (vPart f)) := ⟨fun pins s σ H Q I ⟨F, A, ρ, m, w, g⟩ => (po_some h).run pins s σ H Q I ⟨F, A, ρ, m, w, (Got.bind (R1 := rS K) g).mono fun x H1 ⟨F1, A1, m1, a, n1, w1, ra, q⟩ => by
  unfold gPart at q
  split at q
  · cases ra
    exact ⟨_, rfl, Got.now q w1 rfl⟩
  · exact none_got q⟩⟩
theorem po_vint {k j : Nat} {i : Int} {pos : Pos} : PO X (some (.Constant (.int i) j pos)) (LP K W fun s => rM (some i) s.m) := ⟨fun pins s σ H Q I ⟨F, A, ρ, m, w, g⟩ => (po_some pe_int).run pins s σ H Q I ⟨i, rfl, Got.now (R2 := fun _ _ _ b c => b = c) g w rfl⟩⟩
def cutT (xs : List T) (lo hi : Option Int) : List T := (xs.drop (HT.sIx xs.length 0 lo)).take (HT.sIx xs.length xs.length hi - HT.sIx xs.length 0 lo)
theorem cutT_le (xs : List T) (lo hi : Option Int) : (cutT xs lo hi).length ≤ xs.length := by
  unfold cutT
  rw [List.length_take, List.length_drop]
  omega
theorem cut_rp {F : Hp} {xs : List V} {ts : List T} (r : RpL K F xs ts) (lo hi : Option Int) : RpL K F (cutV xs lo hi) (cutT ts lo hi) := by
  unfold cutV cutT
  rw [r.length]
  exact (r.drop _).take _
/-- of a list: a new list -/
def vSliceL (fe : VE) (fl fh : VP) : VN := fun s => bM (fe s) fun a m1 => bM (fl ⟨s.ρ, m1⟩) fun lo m2 => bM (fh ⟨s.ρ, m2⟩) fun hi m3 => match lstOf a m3 with
  | some ts => if ts.length ≤ SZ then rM (cutT ts lo hi) m3 else none
  | none => match a with
    | .val (.seq ts) => if ts.length ≤ SZ then rM (cutT ts lo hi) m3 else none
    | _ => none
theorem pe_vsliceL {e : Expr} {lo hi : Option Expr} {fe : VE} {fl fh : VP} {pos p2 : Pos} (he : PE X e (LE X.K W fe)) (hl : PO X lo (LP X.K W fl)) (hu : PO X hi (LP X.K W fh)) : PE X (.Subscript e (.Slice lo hi none p2) pos) (LN X.K W (vSliceL fe fl fh)) := PE.imp (pe_slice sl_list he hl hu) fun σ H Q ⟨F, A, ρ, m, w, g⟩ =>
  ⟨F, A, ρ, m, w, (Got.bind (R1 := rS X.K) g).mono fun x H1 ⟨F1, A1, m1, a, n1, w1, ra, g1⟩ => ⟨F1, A1, ρ, m1, w1, (Got.bind (R1 := fun _ _ _ b c => b = c) g1).mono fun l H2 ⟨F2, A2, m2, l', n2, w2, el, g2⟩ => by
    subst el
    exact ⟨F2, A2, ρ, m2, w2, (Got.bind (R1 := fun _ _ _ b c => b = c) g2).mono fun u H3 ⟨F3, A3, m3, u', n3, w3, eu, g3⟩ => by
      subst eu
      have ra3 := (ra.next n2.sub n2.pre).next n3.sub n3.pre
      have n := (n1.trans n2).trans n3
      split at g3
      · rename_i ts et
        split at g3
        · rename_i hz
          obtain ⟨p, xs, rfl, h1, h2⟩ := lstOf_at w3.os ra3 et
          exact ⟨p, xs, rfl, SqL.of h1, fun q nq => new_list n g3 w3 nq (cut_rp h2 l u) (Nat.le_trans (cutT_le _ _ _) hz)⟩
        · exact none_got g3
      · split at g3
        · split at g3
          · rename_i hz
            cases ra3 with
            | seq h1 h2 => exact ⟨_, _, rfl, w3.os.sub.seq h1, fun q nq => new_list n g3 w3 nq (cut_rp h2 l u) (Nat.le_trans (cutT_le _ _ _) hz)⟩
          · exact none_got g3
        · exact none_got g3⟩⟩⟩
/-- of a tuple, of a str -/
def vSliceV (fe : VE) (fl fh : VP) : VE := fun s => bM (fe s) fun a m1 => bM (fl ⟨s.ρ, m1⟩) fun lo m2 => bM (fh ⟨s.ρ, m2⟩) fun hi m3 => match a with
  | .val (.tup ts) => rM (.val (.tup (cutT ts lo hi))) m3
  | .val (.str z) => if z.length ≤ SZ then rM (.val (.str (cutS z lo hi))) m3 else none
  | _ => none
theorem cut_whole {ts : List T} {lo hi : Option Int} (h : HT.sIx ts.length 0 lo = 0 ∧ HT.sIx ts.length ts.length hi = ts.length) : cutT ts lo hi = ts := by
  unfold cutT
  rw [h.1, h.2, List.drop_zero, Nat.sub_zero, List.take_length]
theorem pe_vsliceV {e : Expr} {lo hi : Option Expr} {fe : VE} {fl fh : VP} {pos p2 : Pos} (he : PE X e (LE X.K W fe)) (hl : PO X lo (LP X.K W fl)) (hu : PO X hi (LP X.K W fh)) : PE X (.Subscript e (.Slice lo hi none p2) pos) (LE X.K W (vSliceV fe fl fh)) := PE.imp (pe_slice (SlR.or sl_tupA sl_str) he hl hu) fun σ H Q ⟨F, A, ρ, m, w, g⟩ =>
  ⟨F, A, ρ, m, w, (Got.bind (R1 := rS X.K) g).mono fun x H1 ⟨F1, A1, m1, a, n1, w1, ra, g1⟩ => ⟨F1, A1, ρ, m1, w1, (Got.bind (R1 := fun _ _ _ b c => b = c) g1).mono fun l H2 ⟨F2, A2, m2, l', n2, w2, el, g2⟩ => by
    subst el
    exact ⟨F2, A2, ρ, m2, w2, (Got.bind (R1 := fun _ _ _ b c => b = c) g2).mono fun u H3 ⟨F3, A3, m3, u', n3, w3, eu, g3⟩ => by
      subst eu
      have ra3 := (ra.next n2.sub n2.pre).next n3.sub n3.pre
      split at g3
      · rename_i ts
        cases ra3 with
        | tup h1 h2 =>
          refine .inl ⟨_, _, rfl, sqT_same w3.os.sub h1, fun e => ?_, fun _ p np => ?_⟩
          · rw [h2.length] at e
            rw [cut_whole e] at g3
            exact g3.now w3 (.tup h1 h2)
          · have sN : ∀ o : HO, Same F3 (upd F3 p o) := fun o => same_new (w3.os.fnone np)
            exact g3.fin (Nxt.new w3.os np) (w3.of (sN _) (List.prefix_refl _) (w3.os.new np)) (.tup (SqT.of upd_same) ((cut_rp h2 l u).same (sN _)))
      · split at g3
        · rename_i hz
          cases ra3
          exact .inr ⟨_, rfl, sz_le hz, g3.now w3 (.str _)⟩
        · exact none_got g3
      · exact none_got g3⟩⟩⟩
end
end Vs
end
section
/-! Vs11: built-in functions. -/
namespace Vs
open PySem PySem.Spec PyProof.Rows L2
variable [WW]
section
variable {K : PySem.W.Frag} {W : WX} {X : Cx}
/-- a call of values by a function: a value; a new list -/
def CallV (K : PySem.W.Frag) (r : List V → Hp → VK → Prop) (g : List Sl → List MO → M Sl) : Prop :=
  ∀ (W : WX) (F : Hp) (A : List Addr) (ρ : List (Option Sl)) (m : List MO) (σ : L2.St) (H : Hp) (xs : List V) (ss : List Sl) (Q : VK), Wd K F A ρ m σ H → RpSs K F A xs ss → Got K W σ ρ F A H (rS K) (g ss m) Q → r xs H Q
def CallVN (K : PySem.W.Frag) (r : List V → Hp → VK → Prop) (g : List Sl → List MO → M (List T)) : Prop :=
  ∀ (W : WX) (F0 F : Hp) (A0 A : List Addr) (ρ : List (Option Sl)) (m : List MO) (σ : L2.St) (H0 H : Hp) (xs : List V) (ss : List Sl) (Q : VK), Nxt F0 A0 H0 F A H → Wd K F A ρ m σ H → RpSs K F A xs ss → Got K W σ ρ F A H (relN K H0) (g ss m) Q → r xs H Q
def vB (g : List Sl → List MO → M Sl) (f : VA) : VE := fun s => bM (f s) g
def vBN (g : List Sl → List MO → M (List T)) (f : VA) : VN := fun s => bM (f s) g
theorem le_callB {r : List V → Hp → VK → Prop} {g : List Sl → List MO → M Sl} {f : VA} (hv : CallV K r g) {σ : L2.St} {H : Hp} {Q : VK} (h : LE K W (vB g f) σ H Q) : tCB r (LA K W f) σ H Q := by
  obtain ⟨F, A, ρ, m, w, got⟩ := h
  exact ⟨F, A, ρ, m, w, (Got.bind (R1 := fun F' A' _ vs ss => RpSs K F' A' vs ss) got).mono fun xs H1 ⟨F1, A1, m1, ss, n1, w1, rs, q⟩ => hv W F1 A1 ρ m1 σ H1 xs ss Q w1 rs q⟩
theorem ln_callB {r : List V → Hp → VK → Prop} {g : List Sl → List MO → M (List T)} {f : VA} (hv : CallVN K r g) {σ : L2.St} {H : Hp} {Q : VK} (h : LN K W (vBN g f) σ H Q) : tCB r (LA K W f) σ H Q := by
  obtain ⟨F, A, ρ, m, w, got⟩ := h
  exact ⟨F, A, ρ, m, w, (Got.bind (R1 := fun F' A' _ vs ss => RpSs K F' A' vs ss) got).mono fun xs H1 ⟨F1, A1, m1, ss, n1, w1, rs, q⟩ => hv W F F1 A A1 ρ m1 σ H H1 xs ss Q n1 w1 rs q⟩
section
variable {x : Str} {p pos : Pos} {e : Expr} {es : List Expr} {f : VA} {id T' : String} {r : List V → Hp → VK → Prop}
theorem pe_vcallB {g : List Sl → List MO → M Sl} (hv : CallV X.K r g) (hc : CallR X (.builtin id) r) (hg : Gl X x) (hm : X.mg x = none) (hb : bootBuiltins x = some (.builtin id)) (ha : PA X (e :: es) (LA X.K W f)) (hn : x ≠ "__name__" := by decide) (hdb : (x == ("__debug__" : Str)) = false := by decide)
    (he : starEach (e :: es) X.env = (false, eval e X.env) :: starEach es X.env := by rfl) (hpl : (backTo pos (starEach es X.env)).any (·.1) = false := by rfl) : PE X (.Call (.Name x p) (e :: es) [] pos) (LE X.K W (vB g f)) :=
  PE.imp (pe_callB hc hg hm hb ha hn hdb he hpl) fun _ _ _ => le_callB hv
theorem pe_vcallBN {g : List Sl → List MO → M (List T)} (hv : CallVN X.K r g) (hc : CallR X (.builtin id) r) (hg : Gl X x) (hm : X.mg x = none) (hb : bootBuiltins x = some (.builtin id)) (ha : PA X (e :: es) (LA X.K W f)) (hn : x ≠ "__name__" := by decide) (hdb : (x == ("__debug__" : Str)) = false := by decide)
    (he : starEach (e :: es) X.env = (false, eval e X.env) :: starEach es X.env := by rfl) (hpl : (backTo pos (starEach es X.env)).any (·.1) = false := by rfl) : PE X (.Call (.Name x p) (e :: es) [] pos) (LN X.K W (vBN g f)) :=
  PE.imp (pe_callB hc hg hm hb ha hn hdb he hpl) fun _ _ _ => ln_callB hv
theorem pe_vcallTy {g : List Sl → List MO → M Sl} (hv : CallV X.K r g) (hc : CallR X (.type T') r) (hg : Gl X x) (hm : X.mg x = none) (hb : bootBuiltins x = some (.type T')) (ha : PA X (e :: es) (LA X.K W f)) (hn : x ≠ "__name__" := by decide) (hdb : (x == ("__debug__" : Str)) = false := by decide)
    (he : starEach (e :: es) X.env = (false, eval e X.env) :: starEach es X.env := by rfl) (hpl : (backTo pos (starEach es X.env)).any (·.1) = false := by rfl) : PE X (.Call (.Name x p) (e :: es) [] pos) (LE X.K W (vB g f)) :=
  PE.imp (pe_callTy hc hg hm hb ha hn hdb he hpl) fun _ _ _ => le_callB hv
theorem pe_vcallTyN {g : List Sl → List MO → M (List T)} (hv : CallVN X.K r g) (hc : CallR X (.type T') r) (hg : Gl X x) (hm : X.mg x = none) (hb : bootBuiltins x = some (.type T')) (ha : PA X (e :: es) (LA X.K W f)) (hn : x ≠ "__name__" := by decide) (hdb : (x == ("__debug__" : Str)) = false := by decide)
    (he : starEach (e :: es) X.env = (false, eval e X.env) :: starEach es X.env := by rfl) (hpl : (backTo pos (starEach es X.env)).any (·.1) = false := by rfl) : PE X (.Call (.Name x p) (e :: es) [] pos) (LN X.K W (vBN g f)) :=
  PE.imp (pe_callTy hc hg hm hb ha hn hdb he hpl) fun _ _ _ => ln_callB hv
end
/-! ### len, list, tuple -/
theorem rpSs1 {F : Hp} {A : List Addr} {xs : List V} {s : Sl} (r : RpSs K F A xs [s]) : ∃ x, xs = [x] ∧ RpS K F A x s := by
  cases r with
  | cons r1 r2 => cases r2; exact ⟨_, rfl, r1⟩
theorem rpSs2 {F : Hp} {A : List Addr} {xs : List V} {s s' : Sl} (r : RpSs K F A xs [s, s']) : ∃ x y, xs = [x, y] ∧ RpS K F A x s ∧ RpS K F A y s' := by
  cases r with
  | cons r1 r2 => obtain ⟨y, rfl, r3⟩ := rpSs1 r2; exact ⟨_, y, rfl, r1, r3⟩
abbrev rLen1 (K : PySem.W.Frag) : List V → Hp → VK → Prop := fun xs H Q => (∃ p ys, xs = [.ref p] ∧ (SqL K H p ys ∨ SqT K H p ys) ∧ Q (.int ys.length) H) ∨ ∃ z, xs = [.str z] ∧ z.length ≤ sizeLine ∧ Q (.int z.length) H
theorem call_len1 : CallR X (.builtin "len") (rLen1 X.K) := CallR.or call_len_seq call_len_str
def gLen : List Sl → List MO → M Sl
  | [s], m => match seqOf s m with
    | some ts => rM (.val (.int ts.length)) m
    | none => match s with
      | .val (.str z) => if z.length ≤ SZ then rM (.val (.int z.length)) m else none
      | _ => none
  | _, _ => none
theorem cv_len : CallV K (rLen1 K) gLen := by
  intro W F A ρ m σ H xs ss Q w rs g
  unfold gLen at g
  split at g
  · rename_i s
    obtain ⟨x, rfl, rx⟩ := rpSs1 rs
    split at g
    · rename_i ts e
      obtain ⟨p, ys, rfl, h1, h2⟩ := seqOf_at w.os rx e
      rw [← h2.length] at g
      exact .inl ⟨p, ys, rfl, h1, g.now w (.int _)⟩
    · split at g
      · split at g
        · rename_i hz
          cases rx
          exact .inr ⟨_, rfl, sz_le hz, g.now w (.int _)⟩
        · exact none_got g
      · exact none_got g
  · exact none_got g
abbrev rListOf (K : PySem.W.Frag) : List V → Hp → VK → Prop := fun xs H Q => ∃ p ys, xs = [.ref p] ∧ (SqL K H p ys ∨ SqT K H p ys) ∧ ∀ l, H l = none → Q (.ref l) (upd H l (.lst ys))
def gListOf : List Sl → List MO → M (List T)
  | [s], m => match seqOf s m with
    | some ts => if ts.length ≤ SZ then rM ts m else none
    | none => none
  | _, _ => none
theorem cv_list : CallVN K (rListOf K) gListOf := by
  intro W F0 F A0 A ρ m σ H0 H xs ss Q n w rs g
  unfold gListOf at g
  split at g
  · rename_i s
    obtain ⟨x, rfl, rx⟩ := rpSs1 rs
    split at g
    · rename_i ts e
      split at g
      · rename_i hz
        obtain ⟨p, ys, rfl, h1, h2⟩ := seqOf_at w.os rx e
        exact ⟨p, ys, rfl, h1, fun l nl => new_list n g w nl h2 hz⟩
      · exact none_got g
    · exact none_got g
  · exact none_got g
abbrev rTupOf (K : PySem.W.Frag) : List V → Hp → VK → Prop := fun xs H Q => ∃ p ys, xs = [.ref p] ∧ ((SqL K H p ys ∧ ∀ l, H l = none → Q (.ref l) (upd H l (.tup ys))) ∨ (SqT K H p ys ∧ Q (.ref p) H))
def gTupOf : List Sl → List MO → M Sl
  | [s], m => match seqOf s m with
    | some ts => if ts.length ≤ SZ then rM (.val (.tup ts)) m else none
    | none => none
  | _, _ => none
theorem seqOf_at2 {F : Hp} {A : List Addr} {m : List MO} {H : Hp} {s : Sl} {x : V} {ts : List T} (o : Objs K F A m H) (r : RpS K F A x s) (e : seqOf s m = some ts) : ∃ a xs, x = .ref a ∧ (SqL K H a xs ∨ SqT K F a xs) ∧ RpL K F xs ts := by
  unfold seqOf at e
  split at e
  · rename_i us eu
    cases e
    obtain ⟨a, xs, h1, h2, h3⟩ := lstOf_at o r eu
    exact ⟨a, xs, h1, .inl (SqL.of h2), h3⟩
  · split at e
    · cases e
      cases r with
      | tup h q => exact ⟨_, _, rfl, .inr h, q⟩
    · cases e
      cases r with
      | seq h q => exact ⟨_, _, rfl, .inl (o.sub.seq h), q⟩
    · cases e
theorem cv_tup : CallV K (rTupOf K) gTupOf := by
  intro W F A ρ m σ H xs ss Q w rs g
  unfold gTupOf at g
  split at g
  · rename_i s
    obtain ⟨x, rfl, rx⟩ := rpSs1 rs
    split at g
    · rename_i ts e
      split at g
      · rename_i hz
        obtain ⟨p, ys, rfl, h1, h2⟩ := seqOf_at2 w.os rx e
        refine ⟨p, ys, rfl, h1.elim (fun h => .inl ⟨h, fun l nl => ?_⟩) fun h => .inr ⟨sqT_same w.os.sub h, g.now w (.tup h h2)⟩⟩
        have sN : ∀ o : HO, Same F (upd F l o) := fun o => same_new (w.os.fnone nl)
        exact g.fin (Nxt.new w.os nl) (w.of (sN _) (List.prefix_refl _) (w.os.new nl)) (.tup (SqT.of upd_same) (h2.same (sN _)))
      · exact none_got g
    · exact none_got g
  · exact none_got g
/-! ### str, int, abs, min, max of scalars -/
abbrev rStrI : List V → Hp → VK → Prop := fun xs H Q => ∃ i : Int, xs = [.int i] ∧ i.natAbs.log2 < 1920 ∧ Q (.str (toString i)) H
def gStrI : List Sl → List MO → M Sl
  | [.val (.int i)], m => if i.natAbs.log2 < 1920 then rM (.val (.str (toString i))) m else none
  | _, _ => none
theorem cv_str : CallV K rStrI gStrI := by
  intro W F A ρ m σ H xs ss Q w rs g
  unfold gStrI at g
  split at g
  · split at g
    · rename_i h
      obtain ⟨x, rfl, rx⟩ := rpSs1 rs
      cases rx
      exact ⟨_, rfl, h, g.now w (.str _)⟩
    · exact none_got g
  · exact none_got g
abbrev rAbs : List V → Hp → VK → Prop := fun xs H Q => ∃ i : Int, xs = [.int i] ∧ Q (.int (if i < 0 then -i else i)) H
def gAbs : List Sl → List MO → M Sl
  | [.val (.int i)], m => rM (.val (.int (if i < 0 then -i else i))) m
  | _, _ => none
theorem cv_abs : CallV K rAbs gAbs := by
  intro W F A ρ m σ H xs ss Q w rs g
  unfold gAbs at g
  split at g
  · obtain ⟨x, rfl, rx⟩ := rpSs1 rs
    cases rx
    exact ⟨_, rfl, g.now w (.int _)⟩
  · exact none_got g
abbrev rInt1 : List V → Hp → VK → Prop := fun xs H Q => (∃ i, xs = [.int i] ∧ Q (.int i) H) ∨ ∃ k, xs = [.bl k] ∧ Q (.int (if k then 1 else 0)) H
def gInt1 : List Sl → List MO → M Sl
  | [.val (.int i)], m => rM (.val (.int i)) m
  | [.val (.bl k)], m => rM (.val (.int (if k then 1 else 0))) m
  | _, _ => none
theorem cv_int : CallV K rInt1 gInt1 := by
  intro W F A ρ m σ H xs ss Q w rs g
  unfold gInt1 at g
  split at g
  · obtain ⟨x, rfl, rx⟩ := rpSs1 rs
    cases rx
    exact .inl ⟨_, rfl, g.now w (.int _)⟩
  · obtain ⟨x, rfl, rx⟩ := rpSs1 rs
    cases rx
    exact .inr ⟨_, rfl, g.now w (.int _)⟩
  · exact none_got g
abbrev rMM (f : Int → Int → Int) : List V → Hp → VK → Prop := fun xs H Q => ∃ i j, xs = [.int i, .int j] ∧ Q (.int (f i j)) H
def gMM (f : Int → Int → Int) : List Sl → List MO → M Sl
  | [.val (.int i), .val (.int j)], m => rM (.val (.int (f i j))) m
  | _, _ => none
theorem cv_mm {f : Int → Int → Int} : CallV K (rMM f) (gMM f) := by
  intro W F A ρ m σ H xs ss Q w rs g
  unfold gMM at g
  split at g
  · obtain ⟨x, y, rfl, rx, ry⟩ := rpSs2 rs
    cases rx
    cases ry
    exact ⟨_, _, rfl, g.now w (.int _)⟩
  · exact none_got g
theorem call_max2' (hc : X.calm = true) : CallR X (.builtin "max") (rMM fun i j => if j > i then j else i) := call_max2 hc
theorem call_min2' (hc : X.calm = true) : CallR X (.builtin "min") (rMM fun i j => if j < i then j else i) := call_min2 hc
/-! ### sum, sorted, min, max, any, all of lists -/
/-- what is a list, tracked or only read -/
def lsqOf (s : Sl) (m : List MO) : Option (List T) := match lstOf s m with
  | some ts => some ts
  | none => match s with
    | .val (.seq ts) => some ts
    | _ => none
theorem lsqOf_at {F : Hp} {A : List Addr} {m : List MO} {H : Hp} {s : Sl} {x : V} {ts : List T} (o : Objs K F A m H) (r : RpS K F A x s) (e : lsqOf s m = some ts) : ∃ a xs, x = .ref a ∧ SqL K H a xs ∧ RpL K F xs ts := by
  unfold lsqOf at e
  split at e
  · rename_i us eu
    cases e
    obtain ⟨a, xs, h1, h2, h3⟩ := lstOf_at o r eu
    exact ⟨a, xs, h1, SqL.of h2, h3⟩
  · split at e
    · cases e
      cases r with
      | seq h q => exact ⟨_, _, rfl, o.sub.seq h, q⟩
    · cases e
def intsOf : List T → Option (List Int)
  | [] => some []
  | .int i :: r => (intsOf r).map (i :: ·)
  | _ => none
theorem intsOf_rp {F : Hp} : ∀ {ts : List T} {vs : List V} {ns : List Int}, RpL K F vs ts → intsOf ts = some ns → vs = ns.map V.int
  | [], _, ns, .nil, e => by cases e; rfl
  | t :: r, _, ns, .cons a q, e => by
    cases t with
    | int i =>
      unfold intsOf at e
      cases z : intsOf r with
      | none => rw [z] at e; cases e
      | some ms => rw [z] at e; cases e; cases a; rw [intsOf_rp q z, List.map_cons]
    | _ => cases e
theorem rp_ints {F : Hp} : ∀ {ns : List Int}, RpL K F (ns.map V.int) (ns.map T.int)
  | [] => .nil
  | n :: r => .cons (.int n) rp_ints
def strsOf : List T → Option (List Str)
  | [] => some []
  | .str i :: r => (strsOf r).map (i :: ·)
  | _ => none
theorem strsOf_rp {F : Hp} : ∀ {ts : List T} {vs : List V} {ns : List Str}, RpL K F vs ts → strsOf ts = some ns → vs = ns.map V.str
  | [], _, ns, .nil, e => by cases e; rfl
  | t :: r, _, ns, .cons a q, e => by
    cases t with
    | str i =>
      unfold strsOf at e
      cases z : strsOf r with
      | none => rw [z] at e; cases e
      | some ms => rw [z] at e; cases e; cases a; rw [strsOf_rp q z, List.map_cons]
    | _ => cases e
theorem rp_strs {F : Hp} : ∀ {ns : List Str}, RpL K F (ns.map V.str) (ns.map T.str)
  | [] => .nil
  | n :: r => .cons (.str n) rp_strs
def blsOf : List T → Option (List Bool)
  | [] => some []
  | .bl i :: r => (blsOf r).map (i :: ·)
  | _ => none
theorem blsOf_rp {F : Hp} : ∀ {ts : List T} {vs : List V} {ns : List Bool}, RpL K F vs ts → blsOf ts = some ns → vs = ns.map V.bl
  | [], _, ns, .nil, e => by cases e; rfl
  | t :: r, _, ns, .cons a q, e => by
    cases t with
    | bl i =>
      unfold blsOf at e
      cases z : blsOf r with
      | none => rw [z] at e; cases e
      | some ms => rw [z] at e; cases e; cases a; rw [blsOf_rp q z, List.map_cons]
    | _ => cases e
def gSum : List Sl → List MO → M Sl
  | [s], m => match (lsqOf s m).bind intsOf with
    | some ns => rM (.val (.int ns.sum)) m
    | none => none
  | _, _ => none
theorem bind_some {α β : Type} {x : Option α} {f : α → Option β} {b : β} (h : x.bind f = some b) : ∃ a, x = some a ∧ f a = some b := by
  cases x with
  | none => cases h
  | some a => exact ⟨a, rfl, h⟩
theorem cv_sum : CallV K (rSum K) gSum := by
  intro W F A ρ m σ H xs ss Q w rs g
  unfold gSum at g
  split at g
  · split at g
    · rename_i ns e
      obtain ⟨ts, e1, e2⟩ := bind_some e
      obtain ⟨x, rfl, rx⟩ := rpSs1 rs
      obtain ⟨a, ys, rfl, h1, h2⟩ := lsqOf_at w.os rx e1
      obtain rfl := intsOf_rp h2 e2
      exact ⟨a, ns, rfl, h1, g.now w (.int _)⟩
    · exact none_got g
  · exact none_got g
def gBools (f : List Bool → Bool) : List Sl → List MO → M Sl
  | [s], m => match (lsqOf s m).bind blsOf with
    | some ns => rM (.val (.bl (f ns))) m
    | none => none
  | _, _ => none
theorem cv_any : CallV K (rAny K) (gBools (·.any id)) := by
  intro W F A ρ m σ H xs ss Q w rs g
  unfold gBools at g
  split at g
  · split at g
    · rename_i ns e
      obtain ⟨ts, e1, e2⟩ := bind_some e
      obtain ⟨x, rfl, rx⟩ := rpSs1 rs
      obtain ⟨a, ys, rfl, h1, h2⟩ := lsqOf_at w.os rx e1
      obtain rfl := blsOf_rp h2 e2
      exact ⟨a, ns, rfl, h1, g.now w (.bl _)⟩
    · exact none_got g
  · exact none_got g
theorem cv_all : CallV K (rAll K) (gBools (·.all id)) := by
  intro W F A ρ m σ H xs ss Q w rs g
  unfold gBools at g
  split at g
  · split at g
    · rename_i ns e
      obtain ⟨ts, e1, e2⟩ := bind_some e
      obtain ⟨x, rfl, rx⟩ := rpSs1 rs
      obtain ⟨a, ys, rfl, h1, h2⟩ := lsqOf_at w.os rx e1
      obtain rfl := blsOf_rp h2 e2
      exact ⟨a, ns, rfl, h1, g.now w (.bl _)⟩
    · exact none_got g
  · exact none_got g
/-- the greatest and the least of ints -/
def gMost (f : Int → List Int → Int) : List Sl → List MO → M Sl
  | [s], m => match (lsqOf s m).bind intsOf with
    | some (n :: ns) => rM (.val (.int (f n ns))) m
    | _ => none
  | _, _ => none
def maxI (n : Int) (ns : List Int) : Int := ns.foldl max n
def minI (n : Int) (ns : List Int) : Int := ns.foldl min n
theorem maxI_uniq : ∀ (ns : List Int) (n m : Int), m ∈ n :: ns → (∀ y, y ∈ n :: ns → y ≤ m) → m = maxI n ns
  | [], n, m, h, _ => List.mem_singleton.mp h
  | k :: r, n, m, h, u => by
    show m = maxI (max n k) r
    refine maxI_uniq r (max n k) m ?_ fun y hy => ?_
    · have un := u n (List.mem_cons_self ..)
      have uk := u k (List.mem_cons_of_mem _ (List.mem_cons_self ..))
      rcases List.mem_cons.mp h with z | z
      · exact List.mem_cons.mpr (.inl (by omega))
      · rcases List.mem_cons.mp z with z | z
        · exact List.mem_cons.mpr (.inl (by omega))
        · exact List.mem_cons.mpr (.inr z)
    · have un := u n (List.mem_cons_self ..)
      have uk := u k (List.mem_cons_of_mem _ (List.mem_cons_self ..))
      rcases List.mem_cons.mp hy with z | z
      · omega
      · exact u y (List.mem_cons_of_mem _ (List.mem_cons_of_mem _ z))
theorem minI_uniq : ∀ (ns : List Int) (n m : Int), m ∈ n :: ns → (∀ y, y ∈ n :: ns → m ≤ y) → m = minI n ns
  | [], n, m, h, _ => List.mem_singleton.mp h
  | k :: r, n, m, h, u => by
    show m = minI (min n k) r
    refine minI_uniq r (min n k) m ?_ fun y hy => ?_
    · have un := u n (List.mem_cons_self ..)
      have uk := u k (List.mem_cons_of_mem _ (List.mem_cons_self ..))
      rcases List.mem_cons.mp h with z | z
      · exact List.mem_cons.mpr (.inl (by omega))
      · rcases List.mem_cons.mp z with z | z
        · exact List.mem_cons.mpr (.inl (by omega))
        · exact List.mem_cons.mpr (.inr z)
    · have un := u n (List.mem_cons_self ..)
      have uk := u k (List.mem_cons_of_mem _ (List.mem_cons_self ..))
      rcases List.mem_cons.mp hy with z | z
      · omega
      · exact u y (List.mem_cons_of_mem _ (List.mem_cons_of_mem _ z))
theorem cv_max : CallV K (rMax K) (gMost maxI) := by
  intro W F A ρ m σ H xs ss Q w rs g
  unfold gMost at g
  split at g
  · split at g
    · rename_i n ns e
      obtain ⟨ts, e1, e2⟩ := bind_some e
      obtain ⟨x, rfl, rx⟩ := rpSs1 rs
      obtain ⟨a, ys, rfl, h1, h2⟩ := lsqOf_at w.os rx e1
      obtain rfl := intsOf_rp h2 e2
      exact ⟨a, n :: ns, rfl, h1, Nat.succ_pos _, fun m' h3 h4 => by rw [maxI_uniq ns n m' h3 h4]; exact g.now w (.int _)⟩
    · exact none_got g
  · exact none_got g
theorem cv_min : CallV K (rMin K) (gMost minI) := by
  intro W F A ρ m σ H xs ss Q w rs g
  unfold gMost at g
  split at g
  · split at g
    · rename_i n ns e
      obtain ⟨ts, e1, e2⟩ := bind_some e
      obtain ⟨x, rfl, rx⟩ := rpSs1 rs
      obtain ⟨a, ys, rfl, h1, h2⟩ := lsqOf_at w.os rx e1
      obtain rfl := intsOf_rp h2 e2
      exact ⟨a, n :: ns, rfl, h1, Nat.succ_pos _, fun m' h3 h4 => by rw [minI_uniq ns n m' h3 h4]; exact g.now w (.int _)⟩
    · exact none_got g
  · exact none_got g
/-- sorted: ints, fewer than 64 -/
def insI (x : Int) : List Int → List Int
  | [] => [x]
  | y :: r => if x ≤ y then x :: y :: r else y :: insI x r
def sortI : List Int → List Int
  | [] => []
  | x :: r => insI x (sortI r)
theorem insI_perm (x : Int) : ∀ l, (insI x l).Perm (x :: l)
  | [] => .refl _
  | y :: r => by
    unfold insI
    split
    · exact .refl _
    · exact ((insI_perm x r).cons y).trans (.swap x y r)
theorem sortI_perm : ∀ l, (sortI l).Perm l
  | [] => .refl _
  | x :: r => (insI_perm x _).trans ((sortI_perm r).cons x)
theorem insI_sorted (x : Int) : ∀ l, l.Pairwise (· ≤ ·) → (insI x l).Pairwise (· ≤ ·)
  | [], _ => List.pairwise_singleton ..
  | y :: r, h => by
    unfold insI
    obtain ⟨h1, h2⟩ := List.pairwise_cons.mp h
    split
    · rename_i e
      refine List.pairwise_cons.mpr ⟨fun z hz => ?_, h⟩
      rcases List.mem_cons.mp hz with hz | hz
      · omega
      · have := h1 z hz; omega
    · rename_i e
      refine List.pairwise_cons.mpr ⟨fun z hz => ?_, insI_sorted x r h2⟩
      rcases List.mem_cons.mp ((insI_perm x r).mem_iff.mp hz) with hz | hz
      · omega
      · exact h1 z hz
theorem sortI_sorted : ∀ l, (sortI l).Pairwise (· ≤ ·)
  | [] => .nil
  | x :: r => insI_sorted x _ (sortI_sorted r)
theorem sorted_uniq : ∀ {a b : List Int}, a.Perm b → a.Pairwise (· ≤ ·) → b.Pairwise (· ≤ ·) → a = b
  | [], b, p, _, _ => (List.nil_perm.mp p).symm
  | x :: a, [], p, _, _ => absurd (List.perm_nil.mp p) (by simp)
  | x :: a, y :: b, p, ha, hb => by
    obtain ⟨a1, a2⟩ := List.pairwise_cons.mp ha
    obtain ⟨b1, b2⟩ := List.pairwise_cons.mp hb
    have hx : x ∈ y :: b := p.mem_iff.mp (List.mem_cons_self ..)
    have hy : y ∈ x :: a := p.mem_iff.mpr (List.mem_cons_self ..)
    have e : x = y := by
      rcases List.mem_cons.mp hx with z | z
      · exact z
      · rcases List.mem_cons.mp hy with z' | z'
        · exact z'.symm
        · have := b1 x z; have := a1 y z'; omega
    subst e
    rw [sorted_uniq ((List.perm_cons x).mp p) a2 b2]
def gSortI : List Sl → List MO → M (List T)
  | [s], m => match (lsqOf s m).bind intsOf with
    | some ns => if ns.length < 64 then rM ((sortI ns).map T.int) m else none
    | none => none
  | _, _ => none
theorem cv_sortI : CallVN K (rSorted K) gSortI := by
  intro W F0 F A0 A ρ m σ H0 H xs ss Q n w rs g
  unfold gSortI at g
  split at g
  · split at g
    · rename_i ns e
      split at g
      · rename_i hz
        obtain ⟨ts, e1, e2⟩ := bind_some e
        obtain ⟨x, rfl, rx⟩ := rpSs1 rs
        obtain ⟨a, ys, rfl, h1, h2⟩ := lsqOf_at w.os rx e1
        obtain rfl := intsOf_rp h2 e2
        refine ⟨a, ns, rfl, h1, hz, fun ns' p hp hs np => ?_⟩
        rw [sorted_uniq (hp.trans (sortI_perm ns).symm) hs (sortI_sorted ns)]
        exact new_list n g w np rp_ints (by rw [List.length_map, (sortI_perm ns).length_eq]; exact Nat.le_trans (Nat.le_of_lt hz) (by decide))
      · exact none_got g
    · exact none_got g
  · exact none_got g
end
end Vs
end
section
/-! Vs12: methods of lists, items, records (dicts by texts). -/
namespace Vs
open PySem PySem.Spec PyProof.Rows L2
variable [WW]
section
variable {K : PySem.W.Frag} {W : WX} {X : Cx}
/-! ### pop, extend -/
theorem RpL.dropLast {F : Hp} {xs : List V} {ts : List T} (r : RpL K F xs ts) : RpL K F xs.dropLast ts.dropLast := by
  rw [List.dropLast_eq_take, List.dropLast_eq_take, r.length]; exact r.take _
theorem RpL.eraseIdx {F : Hp} : ∀ {xs : List V} {ts : List T} (i : Nat), RpL K F xs ts → RpL K F (xs.eraseIdx i) (ts.eraseIdx i)
  | _, _, _, .nil => .nil
  | _, _, 0, .cons a r => r
  | _, _, i + 1, .cons a r => .cons a (RpL.eraseIdx i r)
theorem RpL.set {F : Hp} : ∀ {xs : List V} {ts : List T} {v : V} {t : T} (i : Nat), Rp K F v t → RpL K F xs ts → RpL K F (xs.set i v) (ts.set i t)
  | _, _, _, _, _, _, .nil => .nil
  | _, _, _, _, 0, h, .cons a r => .cons h r
  | _, _, _, _, i + 1, h, .cons a r => .cons a (RpL.set i h r)
def vMet0 (g : Sl → List Sl → List MO → M Sl) (fo : VE) : VE := fun s => bM (fo s) fun o m1 => if isLst o m1 = true then g o [] m1 else none
theorem le_met0 {r : V → List V → Hp → VK → Prop} {g : Sl → List Sl → List MO → M Sl} {fo : VE} (hv : MetV K r g) {σ : L2.St} {H : Hp} {Q : VK} (h : LE K W (vMet0 g fo) σ H Q) : tBM0 K "list" r (LE K W fo) σ H Q := by
  obtain ⟨F, A, ρ, m, w, got⟩ := h
  refine ⟨F, A, ρ, m, w, (Got.bind (R1 := rS K) got).mono fun x H1 ⟨F1, A1, m1, o, n1, w1, ro, q⟩ => ?_⟩
  by_cases e : isLst o m1 = true
  · rw [if_pos e] at q
    obtain ⟨i, a, ts, xs, rfl, rfl, ea, em, fa', eh, rl⟩ := isLst_at w1.os ro e
    exact ⟨.inl ⟨rfl, xs, SqL.of eh⟩, hv W F1 A1 ρ m1 σ H1 _ [] _ [] Q w1 (show RpS K F1 A1 _ (.own i) from ⟨a, ea, rfl⟩) .nil q⟩
  · rw [if_neg e] at q; exact none_got q
def gPop (o : Sl) (ss : List Sl) (m : List MO) : M Sl := match o, ss with
  | .own i, [] => match m[i]? with
    | some (.lst ts) => match ts[ts.length - 1]? with
      | some t => rM (.val t) (m.set i (.lst ts.dropLast))
      | none => none
    | _ => none
  | _, _ => none
theorem mv_pop : MetV K rPop gPop := by
  intro W F A ρ m σ H x xs o ss Q w ro rs g
  unfold gPop at g
  split at g
  · rename_i i
    split at g
    · rename_i ts em
      split at g
      · rename_i t et
        obtain ⟨a, ea, rfl⟩ := ro
        obtain ⟨fa, ys, eh, rl⟩ := w.os.obj i a _ ea em
        cases rs
        obtain ⟨v, ev, rv⟩ := rl.get et
        refine ⟨a, ys, v, rfl, rfl, eh, by rw [rl.length]; exact ev, ?_⟩
        exact g.fin (Nxt.write (List.mem_of_getElem? ea)) (w.of (Same.refl _) (List.prefix_refl _) (w.os.write ea fa ⟨fa, _, upd_same, rl.dropLast⟩)) (show RpS K F A v (.val t) from rv)
      · exact none_got g
    · exact none_got g
  · exact none_got g
def gPopAt (o : Sl) (ss : List Sl) (m : List MO) : M Sl := match o, ss with
  | .own i, [.val (.int k)] => match m[i]? with
    | some (.lst ts) => if ts.length ≤ SZ then match ixN ts.length k with
      | some j => match ts[j]? with
        | some t => rM (.val t) (m.set i (.lst (ts.eraseIdx j)))
        | none => none
      | none => none
      else none
    | _ => none
  | _, _ => none
theorem sz63 {n : Nat} (h : n ≤ SZ) : (n : Int) < 2 ^ 63 := by
  have h1 : n ≤ 1000000 := h
  omega
theorem mv_popAt : MetV K rPopAt gPopAt := by
  intro W F A ρ m σ H x xs o ss Q w ro rs g
  unfold gPopAt at g
  split at g
  · rename_i i k
    split at g
    · rename_i ts em
      split at g
      · rename_i hz
        split at g
        · rename_i j ej
          split at g
          · rename_i t et
            obtain ⟨a, ea, rfl⟩ := ro
            obtain ⟨fa, ys, eh, rl⟩ := w.os.obj i a _ ea em
            obtain ⟨y, rfl, ry⟩ := rpSs1 rs
            cases ry
            obtain ⟨v, ev, rv⟩ := rl.get et
            obtain ⟨h1, h2, h3, h4⟩ := ixN_seq ej
            have h63 := sz63 hz
            refine ⟨a, ys, k, j, v, rfl, rfl, eh, by omega, by omega, by rw [rl.length]; exact h1, ev, ?_⟩
            exact g.fin (Nxt.write (List.mem_of_getElem? ea)) (w.of (Same.refl _) (List.prefix_refl _) (w.os.write ea fa ⟨fa, _, upd_same, rl.eraseIdx j⟩)) (show RpS K F A v (.val t) from rv)
          · exact none_got g
        · exact none_got g
      · exact none_got g
    · exact none_got g
  · exact none_got g
def gExtend (o : Sl) (ss : List Sl) (m : List MO) : M Sl := match o, ss with
  | .own i, [s] => match m[i]?, lstOf s m with
    | some (.lst ts), some us => if ts.length + us.length ≤ SZ then rM (.val .non) (m.set i (.lst (ts ++ us))) else none
    | _, _ => none
  | _, _ => none
theorem mv_extend : MetV K rExtend gExtend := by
  intro W F A ρ m σ H x xs o ss Q w ro rs g
  unfold gExtend at g
  split at g
  · rename_i i s
    split at g
    · rename_i ts us em eu
      split at g
      · rename_i hz
        obtain ⟨a, ea, rfl⟩ := ro
        obtain ⟨fa, ys, eh, rl⟩ := w.os.obj i a _ ea em
        obtain ⟨y, rfl, ry⟩ := rpSs1 rs
        obtain ⟨b, zs, rfl, eb, rb⟩ := lstOf_at w.os ry eu
        refine ⟨a, b, ys, zs, rfl, rfl, eh, eb, by rw [rl.length, rb.length]; exact sz_le hz, ?_⟩
        exact g.fin (Nxt.write (List.mem_of_getElem? ea)) (w.of (Same.refl _) (List.prefix_refl _) (w.os.write ea fa ⟨fa, _, upd_same, rl.append rb⟩)) (show RpS K F A .non (.val .non) from .non)
      · exact none_got g
    · exact none_got g
  · exact none_got g
section
variable {o e : Expr} {fo : VE} {fa : VA} {apos cpos : Pos}
theorem pe_vpop (ho : PE X o (LE X.K W fo)) (hbase : attributeBase o "pop" X.env (eval o X.env) = eval o X.env := by rfl) (hline : (apos.endLine == cpos.line) = true := by rfl) : PE X (.Call (.Attribute o "pop" apos) [] [] cpos) (LE X.K W (vMet0 gPop fo)) :=
  PE.imp (pe_bm0 PySem.F.plainAttrs_list PySem.F.slot_list_pop PySem.F.type_list_pop mt_pop ho hbase hline) fun _ _ _ => le_met0 mv_pop
theorem pe_vpopAt (ho : PE X o (LE X.K W fo)) (ha : PA X [e] (LA X.K W fa)) (hbase : attributeBase o "pop" X.env (eval o X.env) = eval o X.env := by rfl)
    (hfew : ((backTo cpos (starEach (e :: []) X.env)).all (fun x => !x.1) && (backToKw cpos (keywordEach [] X.env)).all (fun x => x.1.isSome) && decide ((e :: []).length + ([] : List Keyword).length + (if ([] : List Keyword).isEmpty then 0 else 1) < 30)) = true := by rfl)
    (hline : (apos.endLine == cpos.line) = true := by rfl) (hs : starEach (e :: []) X.env = (false, eval e X.env) :: starEach [] X.env := by rfl) (hplain : (backTo cpos (starEach [] X.env)).any (·.1) = false := by rfl) :
    PE X (.Call (.Attribute o "pop" apos) [e] [] cpos) (LE X.K W (vMet gPopAt fo fa)) := PE.imp (pe_bm PySem.F.plainAttrs_list PySem.F.slot_list_pop PySem.F.type_list_pop mt_popAt ho ha hbase hfew hline hs hplain) fun _ _ _ => le_met mv_popAt
theorem pe_vextend (ho : PE X o (LE X.K W fo)) (ha : PA X [e] (LA X.K W fa)) (hbase : attributeBase o "extend" X.env (eval o X.env) = eval o X.env := by rfl)
    (hfew : ((backTo cpos (starEach (e :: []) X.env)).all (fun x => !x.1) && (backToKw cpos (keywordEach [] X.env)).all (fun x => x.1.isSome) && decide ((e :: []).length + ([] : List Keyword).length + (if ([] : List Keyword).isEmpty then 0 else 1) < 30)) = true := by rfl)
    (hline : (apos.endLine == cpos.line) = true := by rfl) (hs : starEach (e :: []) X.env = (false, eval e X.env) :: starEach [] X.env := by rfl) (hplain : (backTo cpos (starEach [] X.env)).any (·.1) = false := by rfl) :
    PE X (.Call (.Attribute o "extend" apos) [e] [] cpos) (LE X.K W (vMet gExtend fo fa)) := PE.imp (pe_bm PySem.F.plainAttrs_list PySem.F.slot_list_extend PySem.F.type_list_extend mt_extend ho ha hbase hfew hline hs hplain) fun _ _ _ => le_met mv_extend
end
/-! ### records: read -/
theorem valV_kvs {z : Str} : ∀ (vs : List (Str × V)), valV (kvs vs) (.inr z : Key) = vs.lookup z
  | [] => rfl
  | (y, v) :: r => by
    have ih := valV_kvs (z := z) r
    unfold valV at ih ⊢
    show (List.find? _ ((Sum.inr y, v) :: kvs r)).map _ = _
    rw [List.find?_cons, List.lookup_cons]
    by_cases e : y = z
    · subst e
      simp
    · have e1 : decide ((Sum.inr y : Key) = Sum.inr z) = false := decide_eq_false (fun q => e (Sum.inr.inj q))
      have e2 : (z == y) = false := by rw [beq_eq_false_iff_ne]; exact fun q => e q.symm
      rw [e1, e2]
      exact ih
theorem RpG.lookup {F : Hp} {A : List Addr} {z : Str} : ∀ {vs : List (Str × V)} {fs : List (Str × Sl)} {s : Sl}, RpG K F A vs fs → fs.lookup z = some s → ∃ v, vs.lookup z = some v ∧ RpS K F A v s
  | _, _, s, .nil, e => by cases e
  | _, _, s, .cons (x := y) h r, e => by
    rw [List.lookup_cons] at e ⊢
    cases q : z == y with
    | true => rw [q] at e; cases e; exact ⟨_, rfl, h⟩
    | false => rw [q] at e; exact RpG.lookup r e
def gRd (a b : Sl) (m : List MO) : M Sl := match a, b with
  | .own i, .val (.str z) => match m[i]? with
    | some (.rcd fs) => match fs.lookup z with
      | some s => rM s m
      | none => none
    | _ => none
  | _, _ => none
abbrev rRd : R2 := fun x y H Q => ∃ a v, x = .ref a ∧ DGet H a y (some v) ∧ Q v H
theorem ov_rd : OpV K rRd gRd := by
  intro W F A ρ m σ H x y a b Q w ra rb g
  unfold gRd at g
  split at g
  · rename_i i z
    split at g
    · rename_i fs em
      split at g
      · rename_i s es
        obtain ⟨ad, ea, rfl⟩ := ra
        obtain ⟨fa, vs, eh, rg⟩ := w.os.obj i ad _ ea em
        cases rb
        obtain ⟨v, ev, rv⟩ := rg.lookup es
        refine ⟨ad, v, rfl, ?_, g.now w rv⟩
        rw [← ev, ← valV_kvs]
        exact DGet.k (k := Sum.inr z) eh
      · exact none_got g
    · exact none_got g
  · exact none_got g
theorem pe_vrd {o i : Expr} {fa fb : VE} {pos : Pos} (hu : X.A.units + 1 < cLine) (ho : PE X o (LE X.K W fa)) (hi : PE X i (LE X.K W fb)) (hs : NoSl i) : PE X (.Subscript o i pos) (LE X.K W (vBin gRd fa fb)) := PE.imp (pe_dget hu ho hi hs) fun σ H Q h => le_bin (r := rRd) ov_rd h
/-! ### records: written -/
def putL {α : Type} (fs : List (Str × α)) (z : Str) (s : α) : List (Str × α) := if (fs.any fun kv => decide (kv.1 = z)) = true then fs.map (fun kv => if kv.1 = z then (kv.1, s) else kv) else fs ++ [(z, s)]
theorem any_kvs {z : Str} : ∀ (vs : List (Str × V)), ((kvs vs).any fun kv => decide (kv.1 = (.inr z : Key))) = vs.any fun kv => decide (kv.1 = z)
  | [] => rfl
  | (y, v) :: r => by
    show ((Sum.inr y, v) :: kvs r).any _ = _
    rw [List.any_cons, List.any_cons, any_kvs r]
    congr 1
    exact decide_eq_decide.mpr ⟨fun q => Sum.inr.inj q, fun q => congrArg Sum.inr q⟩
theorem map_kvs {z : Str} {s : V} : ∀ (vs : List (Str × V)), (kvs vs).map (fun kv => if kv.1 = (.inr z : Key) then (kv.1, s) else kv) = kvs (vs.map fun kv => if kv.1 = z then (kv.1, s) else kv)
  | [] => rfl
  | (y, v) :: r => by
    show ((Sum.inr y, v) :: kvs r).map _ = kvs (((y, v) :: r).map _)
    rw [List.map_cons, List.map_cons, map_kvs r]
    show _ = (Sum.inr _, _) :: kvs _
    by_cases e : y = z
    · subst e; simp
    · have e1 : ¬ (Sum.inr y : Key) = Sum.inr z := fun q => e (Sum.inr.inj q)
      simp only [if_neg e, if_neg e1]
theorem putK_kvs {z : Str} {s : V} (vs : List (Str × V)) : putK (kvs vs) (.inr z : Key) s = kvs (putL vs z s) := by
  unfold putK putL
  rw [any_kvs]
  by_cases e : (vs.any fun kv => decide (kv.1 = z)) = true
  · rw [if_pos e, if_pos e, map_kvs]
  · rw [if_neg e, if_neg e]
    unfold kvs
    rw [List.map_append]
    rfl
theorem RpG.any {F : Hp} {A : List Addr} {z : Str} : ∀ {vs : List (Str × V)} {fs : List (Str × Sl)}, RpG K F A vs fs → (vs.any fun kv => decide (kv.1 = z)) = fs.any fun kv => decide (kv.1 = z)
  | _, _, .nil => rfl
  | _, _, .cons h r => by rw [List.any_cons, List.any_cons, RpG.any r]
theorem RpG.mapPut {F : Hp} {A : List Addr} {z : Str} {v : V} {s : Sl} (rv : RpS K F A v s) : ∀ {vs : List (Str × V)} {fs : List (Str × Sl)}, RpG K F A vs fs → RpG K F A (vs.map fun kv => if kv.1 = z then (kv.1, v) else kv) (fs.map fun kv => if kv.1 = z then (kv.1, s) else kv)
  | _, _, .nil => .nil
  | _, _, .cons (x := y) h r => by
    rw [List.map_cons, List.map_cons]
    by_cases e : y = z
    · rw [if_pos e, if_pos e]; exact .cons rv (RpG.mapPut rv r)
    · rw [if_neg e, if_neg e]; exact .cons h (RpG.mapPut rv r)
theorem RpG.app1 {F : Hp} {A : List Addr} {z : Str} {v : V} {s : Sl} (rv : RpS K F A v s) : ∀ {vs : List (Str × V)} {fs : List (Str × Sl)}, RpG K F A vs fs → RpG K F A (vs ++ [(z, v)]) (fs ++ [(z, s)])
  | _, _, .nil => .cons rv .nil
  | _, _, .cons h r => .cons h (RpG.app1 rv r)
theorem RpG.put {F : Hp} {A : List Addr} {z : Str} {v : V} {s : Sl} {vs : List (Str × V)} {fs : List (Str × Sl)} (rv : RpS K F A v s) (r : RpG K F A vs fs) : RpG K F A (putL vs z v) (putL fs z s) := by
  unfold putL
  rw [r.any]
  by_cases e : (fs.any fun kv => decide (kv.1 = z)) = true
  · rw [if_pos e, if_pos e]; exact r.mapPut rv
  · rw [if_neg e, if_neg e]; exact r.app1 rv
theorem RpG.length {F : Hp} {A : List Addr} : ∀ {vs : List (Str × V)} {fs : List (Str × Sl)}, RpG K F A vs fs → vs.length = fs.length
  | _, _, .nil => rfl
  | _, _, .cons _ r => by rw [List.length_cons, List.length_cons, RpG.length r]
/-- d[k] = v: the value first -/
def gPut (ρ : List (Option Sl)) (v d k : Sl) (m : List MO) : R := match d, k with
  | .own i, .val (.str z) => match m[i]? with
    | some (.rcd fs) => if fs.length < SZ then some (.nx, ⟨ρ, m.set i (.rcd (putL fs z v))⟩) else none
    | _ => none
  | _, _ => none
def vPut (fd fk fv : VE) : VS := fun s => bS s.ρ (fv s) fun v m1 => bS s.ρ (fd ⟨s.ρ, m1⟩) fun d m2 => bS s.ρ (fk ⟨s.ρ, m2⟩) fun k m3 => gPut s.ρ v d k m3
theorem none_ran {F : Hp} {A : List Addr} {H : Hp} {D : Ends} {P : Prop} (h : Ran K W F A H D none) : P := by
  obtain ⟨_, _, z, _⟩ := h; cases z
theorem gPut_go {F : Hp} {A : List Addr} {ρ : List (Option Sl)} {m : List MO} {σ : L2.St} {H : Hp} {D : Ends} {v d k : Sl} {x y z : V} (w : Wd K F A ρ m σ H) (rv : RpS K F A x v) (rd : RpS K F A y d) (rk : RpS K F A z k) (q : Ran K W F A H D (gPut ρ v d k m)) :
    ∃ a H4, y = .ref a ∧ DPut H a z x H4 ∧ D.nx σ H4 := by
  unfold gPut at q
  split at q
  · rename_i j t
    split at q
    · rename_i fs em
      split at q
      · rename_i hz
        obtain ⟨ad, ea, rfl⟩ := rd
        obtain ⟨fa, vs, eh, rg⟩ := w.os.obj j ad _ ea em
        cases rk
        have hl : (kvs vs).length < sizeLine := by unfold kvs; rw [List.length_map, rg.length]; exact sz_lt hz
        refine ⟨ad, _, rfl, DPut.k (k := Sum.inr t) eh hl, ?_⟩
        rw [putK_kvs]
        have wr := w.os.write ea fa (u := .dK (kvs (putL vs t x))) (o := .rcd (putL fs t v)) ⟨fa, _, upd_same, rg.put rv⟩
        exact (q.later (Nxt.write (List.mem_of_getElem? ea))).nx (w.of (Same.refl _) (List.prefix_refl _) wr)
      · exact none_ran q
    · exact none_ran q
  · exact none_ran q
theorem ps_vput {o i value : Expr} {fd fk fv : VE} {pos pos' : Pos} (hu : X.A.units + 1 < cLine) (ho : PE X o (LE X.K W fd)) (hi : PE X i (LE X.K W fk)) (hv : PE X value (LE X.K W fv)) (hs : swapsWith value (some (.Subscript o i pos')) pos.line X.env = pure false := by rfl) :
    PS X (.Assign [.Subscript o i pos'] value pos) (LS X.K W (vPut fd fk fv)) := PS.imp (ps_dput hu ho hi hv hs) fun D σ H ⟨F, A, ρ, m, w, r⟩ =>
  ⟨F, A, ρ, m, w, (Ran.bS (rS X.K) r).mono fun x H1 ⟨F1, A1, m1, v, n1, w1, rv, q1⟩ => ⟨F1, A1, ρ, m1, w1, (Ran.bS (rS X.K) q1).mono fun y H2 ⟨F2, A2, m2, d, n2, w2, rd, q2⟩ => ⟨F2, A2, ρ, m2, w2, (Ran.bS (rS X.K) q2).mono fun z H3 ⟨F3, A3, m3, k, n3, w3, rk, q3⟩ =>
    gPut_go w3 (rv.next (n2.sub.trans n3.sub) (List.IsPrefix.trans n2.pre n3.pre)) (rd.next n3.sub n3.pre) rk q3⟩⟩⟩
/-! ### records: made -/
def vRcd : List (Str × VE) → S → M (List (Str × Sl))
  | [], s => rM [] s.m
  | (x, f) :: r, s => bM (f s) fun v m1 => bM (vRcd r ⟨s.ρ, m1⟩) fun vs m2 => rM ((x, v) :: vs) m2
def distinct : List Str → Bool
  | [] => true
  | x :: r => !r.contains x && distinct r
def gDisp (fs : List (Str × Sl)) (m : List MO) : M Sl := if distinct (fs.map (·.1)) = true ∧ fs.length ≤ 15 then rM (.own m.length) (m ++ [.rcd fs]) else none
def vDisp (l : List (Str × VE)) : VE := fun s => bM (vRcd l s) gDisp
abbrev relD (K : PySem.W.Frag) : Hp → List Addr → Hp → List (V × V) → List (Str × Sl) → Prop := fun F A _ ps fs => ∃ vs, ps = vs.map (fun q => (V.str q.1, q.2)) ∧ RpG K F A vs fs
theorem tp_rcd : ∀ (l : List (Str × VE)) {σ : L2.St} {H : Hp} {Q : List (V × V) → Hp → Prop} {F : Hp} {A : List Addr} {ρ : List (Option Sl)} {m : List MO}, Wd K F A ρ m σ H → Got K W σ ρ F A H (relD K) (vRcd l ⟨ρ, m⟩) Q → tPairs (l.map fun p => (tC (.str p.1), LE K W p.2)) σ H Q
  | [], σ, H, Q, F, A, ρ, m, w, got => Got.now got w ⟨[], rfl, .nil⟩
  | (x, f) :: r, σ, H, Q, F, A, ρ, m, w, got => by
    refine ⟨F, A, ρ, m, w, (Got.bind (R1 := rS K) got).mono fun y H1 ⟨F1, A1, m1, a, n1, w1, ra, g1⟩ => ?_⟩
    refine tp_rcd r w1 ((Got.bind (R1 := relD K) g1).mono fun ps H2 ⟨F2, A2, m2, fs, n2, w2, ⟨vs, e, rg⟩, g2⟩ => ?_)
    exact Got.now g2 w2 ⟨(x, y) :: vs, by rw [e]; rfl, .cons (ra.next n2.sub n2.pre) rg⟩
theorem distinct_not {x : Str} {r : List Str} (h : distinct (x :: r) = true) : x ∉ r ∧ distinct r = true := by
  unfold distinct at h
  rw [Bool.and_eq_true] at h
  refine ⟨fun z => ?_, h.2⟩
  have := List.contains_iff_mem.mpr z
  rw [this] at h
  exact absurd h.1 (by simp)
theorem any_false {z : Str} {vs : List (Str × V)} (h : z ∉ vs.map (·.1)) : (vs.any fun kv => decide (kv.1 = z)) = false := by
  cases e : vs.any fun kv => decide (kv.1 = z) with
  | false => rfl
  | true =>
    obtain ⟨kv, h1, h2⟩ := List.any_eq_true.mp e
    exact absurd (List.mem_map.mpr ⟨kv, h1, of_decide_eq_true h2⟩) h
theorem merge_app : ∀ (vs us : List (Str × V)), (∀ x ∈ vs.map (·.1), x ∉ us.map (·.1)) → distinct (vs.map (·.1)) = true → mergeK (kvs us) (kvs vs) = kvs (us ++ vs)
  | [], us, _, _ => by rw [List.append_nil]; rfl
  | (y, v) :: r, us, h1, h2 => by
    have h2' : distinct (y :: r.map (·.1)) = true := h2
    obtain ⟨d1, d2⟩ := distinct_not h2'
    show mergeK (putK (kvs us) (Sum.inr y) v) (kvs r) = _
    rw [putK_kvs]
    have e : putL us y v = us ++ [(y, v)] := by
      unfold putL
      rw [any_false (h1 y (List.mem_cons_self ..)), if_neg Bool.false_ne_true]
    rw [e, merge_app r (us ++ [(y, v)]) (fun x hx => by
      rw [List.map_append]
      intro z
      rcases List.mem_append.mp z with z | z
      · exact h1 x (List.mem_cons_of_mem _ hx) z
      · have z' : x = y := List.mem_singleton.mp z
        exact d1 (by rw [← z']; exact hx)) d2]
    rw [List.append_assoc]
    rfl
theorem RpG.keys {F : Hp} {A : List Addr} : ∀ {vs : List (Str × V)} {fs : List (Str × Sl)}, RpG K F A vs fs → vs.map (·.1) = fs.map (·.1)
  | _, _, .nil => rfl
  | _, _, .cons _ r => by rw [List.map_cons, List.map_cons, RpG.keys r]
/-- an object that is there joins the store -/
theorem Objs.addO {F : Hp} {A : List Addr} {m : List MO} {H : Hp} {p : Addr} {o : MO} (h : Objs K F A m H) (na : p ∉ A) (e : ∃ u, H p = some u) (r : MRep K F A H p o) : Objs K F (A ++ [p]) (m ++ [o]) H where
  sub := h.sub
  len := by rw [List.length_append, List.length_append, h.len]; rfl
  nd := List.nodup_append.mpr ⟨h.nd, (by simp), fun a ha b hb z => by rw [List.mem_singleton.mp hb] at z; exact na (z ▸ ha)⟩
  there := fun a ha => (List.mem_append.mp ha).elim (h.there a) fun z => by rw [List.mem_singleton.mp z]; exact e
  obj := fun i a u h1 h2 => by
    by_cases hi : i < A.length
    · rw [List.getElem?_append_left hi] at h1
      rw [List.getElem?_append_left (h.len ▸ hi)] at h2
      exact (h.obj i a u h1 h2).next (Same.refl _) (List.prefix_append _ _) (fun o e => e) id
    · rw [List.getElem?_append_right (Nat.le_of_not_lt hi)] at h1
      rw [List.getElem?_append_right (h.len ▸ Nat.le_of_not_lt hi), ← h.len] at h2
      cases z : i - A.length with
      | zero =>
        rw [z] at h1 h2
        cases h1
        cases h2
        exact r.next (Same.refl _) (List.prefix_append _ _) (fun o e => e) id
      | succ n => rw [z] at h1; cases h1
/-- nobody's thing is written -/
theorem Objs.over {F : Hp} {A : List Addr} {m : List MO} {H : Hp} {p : Addr} {u : HO} (h : Objs K F A m H) (fp : F p = none) (na : p ∉ A) : Objs K F A m (upd H p u) where
  sub := fun b v e => by
    have ne : b ≠ p := fun z => by rw [z, fp] at e; cases e
    rw [upd_ne ne]; exact h.sub b v e
  len := h.len
  nd := h.nd
  there := fun a ha => by
    obtain ⟨o, e⟩ := h.there a ha
    exact ⟨o, by rw [upd_ne (fun z => na (by rw [← z]; exact ha))]; exact e⟩
  obj := fun i a o h1 h2 => (h.obj i a o h1 h2).next (Same.refl _) (List.prefix_refl _) (fun o e => by rw [upd_ne (fun z => na (by rw [← z]; exact List.mem_of_getElem? h1))]; exact e) id
theorem Nxt.addp {F F2 : Hp} {A A2 : List Addr} {H H2 : Hp} {p : Addr} {u : HO} (n : Nxt F A H F2 A2 H2) (hp : H p = none) : Nxt F A H F2 (A2 ++ [p]) (upd H2 p u) :=
  ⟨n.sub, List.IsPrefix.trans n.pre (List.prefix_append _ _), n.fresh, fun a ha => (List.mem_append.mp ha).elim (n.news a) fun z => .inr (by rw [List.mem_singleton.mp z]; exact hp),
    fun a o e ha => by rw [upd_ne (ne_of_none e hp)]; exact n.keep a o e ha⟩
theorem le_disp {l : List (Str × VE)} {σ : L2.St} {H : Hp} {Q : VK} (h : LE K W (vDisp l) σ H Q) : tDisp (l.map fun p => (tC (.str p.1), LE K W p.2)) σ H Q := by
  obtain ⟨F, A, ρ, m, w, got⟩ := h
  intro p np
  have w0 : Wd K F A ρ m σ (upd H p (.dK [])) := w.of (Same.refl _) (List.prefix_refl _) (w.os.keep np)
  have n0 : Nxt F A H F A (upd H p (.dK [])) := ⟨Same.refl _, List.prefix_refl _, fun _ _ e => .inl e, fun _ h => .inl h, fun a o e _ => by rw [upd_ne (ne_of_none e np)]; exact e⟩
  refine tp_rcd l w0 ?_
  unfold vDisp at got
  match vRcd l ⟨ρ, m⟩, got with
  | none, got => exact none_got (show Got K W σ ρ F A H (rS K) none Q from got)
  | some (.ex C fs, m1), got =>
    have got : Got K W σ ρ F A H (rS K) (some (.ex C fs, m1)) Q := got
    obtain ⟨_, _, z, got⟩ := got
    cases z
    exact ⟨_, _, rfl, fun F' A' d vs H' n w' => got F' A' d vs H' (n0.trans n) w'⟩
  | some (.ok fs, m1), got =>
    have got : Got K W σ ρ F A H (rS K) (gDisp fs m1) Q := got
    unfold gDisp at got
    split at got
    · rename_i hc
      refine ⟨_, _, rfl, fun F2 A2 ps H2 n w2 r => ?_⟩
      obtain ⟨vs, e, rg⟩ := r
      have pA : p ∉ A := w.os.notin np
      have e2 : H2 p = some (.dK []) := n.keep p _ upd_same pA
      have f2 : F2 p = none := by
        cases q : F2 p with
        | none => rfl
        | some u =>
          rcases n.fresh p u q with y | y | y
          · rw [w.os.fnone np] at y; cases y
          · rw [upd_same] at y; cases y
          · exact absurd y pA
      have p2 : p ∉ A2 := fun z => by
        rcases n.news p z with y | y
        · exact pA y
        · rw [upd_same] at y; cases y
      have hk := rg.keys
      refine ⟨e2, kvs vs, ?_, ?_, ?_⟩
      · rw [e]; unfold kvs; rw [List.map_map]; rfl
      · unfold kvs; rw [List.length_map, rg.length]; exact hc.2
      · have em : mergeK [] (kvs vs) = kvs vs := merge_app vs [] (fun x _ z => by cases z) (by rw [hk]; exact hc.1)
        rw [em]
        have o3 : Objs K F2 (A2 ++ [p]) (m1 ++ [.rcd fs]) (upd H2 p (.dK (kvs vs))) := (w2.os.over f2 p2).addO p2 ⟨_, upd_same⟩ ⟨f2, vs, upd_same, rg⟩
        refine got.fin ((n0.trans n).addp np) (w2.of (Same.refl _) (List.prefix_append _ _) o3) ?_
        exact ⟨p, by rw [← w2.os.len, List.getElem?_append_right (Nat.le_refl _), Nat.sub_self]; rfl, rfl⟩
    · exact none_got got
theorem pe_vdisp {keys : List (Option Expr)} {values : List Expr} {l : List (Str × VE)} {pos : Pos} (h : PPs X pos keys values (l.map fun p => (tC (.str p.1), LE X.K W p.2))) (hall : keys.all (·.isSome) = true) (hl : keys.length = values.length) (h0 : keys ≠ []) (h15 : keys.length ≤ 15) : PE X (.Dict keys values pos) (LE X.K W (vDisp l)) := PE.imp (pe_disp h hall hl h0 h15) fun _ _ _ => le_disp
end
end Vs
end
section
/-! Vs13: what is frozen, enumerate, zip, list(range(..)). -/
namespace Vs
open PySem PySem.Spec PyProof.Rows L2
variable [WW]
section
variable {K : PySem.W.Frag} {W : WX} {X : Cx}
/-! ### a list that from here on is never changed -/
def frS (j : Nat) (ts : List T) : Sl → Sl
  | .own i => if i = j then .val (.lst ts) else .own i
  | s => s
def frO (j : Nat) (ts : List T) : MO → MO
  | .rcd fs => .rcd (fs.map fun p => (p.1, frS j ts p.2))
  | .ins C fs => .ins C (fs.map fun p => (p.1, frS j ts p.2))
  | .lsO ss => .lsO (ss.map (frS j ts))
  | o => o
/-- the list that variable i holds -/
def frz (i : Nat) (s : S) : S := match s.ρ[i]? with
  | some (some (.own j)) => match s.m[j]? with
    | some (.lst ts) => ⟨s.ρ.map (·.map (frS j ts)), (s.m.map (frO j ts)).set j .dead⟩
    | _ => s
  | _ => s
theorem RpS.frz {F : Hp} {A : List Addr} {v : V} {s : Sl} {j : Nat} {a : Addr} {ts : List T} {xs : List V} (ea : A[j]? = some a) (fa : F a = some (.lst xs)) (rl : RpL K F xs ts) (r : RpS K F A v s) : RpS K F A v (frS j ts s) := by
  cases s with
  | val t => exact r
  | own i =>
    unfold frS
    simp only
    by_cases e : i = j
    · rw [if_pos e]
      subst e
      obtain ⟨b, h1, rfl⟩ := r
      rw [ea] at h1
      cases h1
      exact .lst fa rl
    · rw [if_neg e]; exact r
theorem RpG.frz {F : Hp} {A : List Addr} {j : Nat} {a : Addr} {ts : List T} {xs : List V} (ea : A[j]? = some a) (fa : F a = some (.lst xs)) (rl : RpL K F xs ts) : ∀ {vs : List (Str × V)} {fs : List (Str × Sl)}, RpG K F A vs fs → RpG K F A vs (fs.map fun p => (p.1, frS j ts p.2))
  | _, _, .nil => .nil
  | _, _, .cons h r => .cons (h.frz ea fa rl) (RpG.frz ea fa rl r)
theorem RpSs.frz {F : Hp} {A : List Addr} {j : Nat} {a : Addr} {ts : List T} {xs : List V} (ea : A[j]? = some a) (fa : F a = some (.lst xs)) (rl : RpL K F xs ts) : ∀ {vs : List V} {ss : List Sl}, RpSs K F A vs ss → RpSs K F A vs (ss.map (frS j ts))
  | _, _, .nil => .nil
  | _, _, .cons h r => .cons (h.frz ea fa rl) (RpSs.frz ea fa rl r)
theorem frz_ok {F : Hp} {A : List Addr} {ρ : List (Option Sl)} {m : List MO} {σ : L2.St} {H : Hp} (i : Nat) (w : Wd K F A ρ m σ H) : ∃ F', Nxt F A H F' A H ∧ Wd K F' A (frz i ⟨ρ, m⟩).ρ (frz i ⟨ρ, m⟩).m σ H := by
  unfold frz
  split
  · rename_i j e
    split
    · rename_i ts em
      simp only at e em
      obtain ⟨v, ev, a, ea, rfl⟩ := w.slot i _ e
      obtain ⟨fa, xs, eh, rl⟩ := w.os.obj j a _ ea em
      obtain ⟨n2, w2⟩ := freeze w ea em fa eh
      have rl2 := rl.same n2.sub
      have fa2 : upd F a (.lst xs) a = some (.lst xs) := upd_same
      refine ⟨_, n2, ⟨⟨w2.os.sub, ?_, w2.os.nd, w2.os.there, ?_⟩, ?_, ?_⟩⟩
      · simp only [List.length_set, List.length_map]; exact w.os.len
      · intro k b o h1 h2
        simp only at h2
        by_cases z : j = k
        · subst z
          have hl : j < (m.map (frO j ts)).length := by
            have := (List.getElem?_eq_some_iff.mp h2).1
            rw [List.length_set] at this
            exact this
          rw [List.getElem?_set_self hl] at h2
          cases h2
          trivial
        · rw [List.getElem?_set_ne z, List.getElem?_map] at h2
          cases q : m[k]? with
          | none => rw [q] at h2; cases h2
          | some u =>
            rw [q] at h2
            cases h2
            have r := w2.os.obj k b u h1 (by rw [List.getElem?_set_ne z]; exact q)
            cases u with
            | lst us => exact r
            | rcd fs => obtain ⟨r1, vs, r2, r3⟩ := r; exact ⟨r1, vs, r2, r3.frz ea fa2 rl2⟩
            | ins C fs => obtain ⟨r1, dx, vs, r2, r3⟩ := r; exact ⟨r1, dx, vs, r2, r3.frz ea fa2 rl2⟩
            | lsO ss => obtain ⟨r1, vs, r2, r3⟩ := r; exact ⟨r1, vs, r2, r3.frz ea fa2 rl2⟩
            | dct ps => exact r
            | dead => trivial
      · intro k r h
        simp only [List.getElem?_map] at h
        cases q : ρ[k]? with
        | none => rw [q] at h; cases h
        | some u =>
          rw [q] at h
          cases u with
          | none => cases h
          | some s =>
            cases h
            obtain ⟨v, h1, h2⟩ := w2.slot k s q
            exact ⟨v, h1, h2.frz ea fa2 rl2⟩
      · simp only [List.length_map]; exact w.slen
    · exact ⟨F, Nxt.refl, w⟩
  · exact ⟨F, Nxt.refl, w⟩
/-- the list of variable i is frozen ahead of a statement -/
def vFrz (i : Nat) (f : VS) : VS := fun s => f (frz i s)
theorem ls_frz {i : Nat} {f : VS} {D : Ends} {σ : L2.St} {H : Hp} (h : LS K W (vFrz i f) D σ H) : LS K W f D σ H := by
  obtain ⟨F, A, ρ, m, w, r⟩ := h
  obtain ⟨F', n, w'⟩ := frz_ok i w
  exact ⟨F', A, _, _, w', Ran.later r n⟩
theorem ps_frz {st : Stmt} {f : VS} (i : Nat) (h : PS X st (LS K W f)) : PS X st (LS K W (vFrz i f)) := PS.imp h fun _ _ _ => ls_frz
theorem pss_frz {st : List Stmt} {f : VS} (i : Nat) (h : PSs X st (LS K W f)) : PSs X st (LS K W (vFrz i f)) := PSs.imp h fun _ _ _ => ls_frz
/-! ### enumerate -/
def numT : Nat → List T → List T
  | _, [] => []
  | i, t :: r => .tup [.int i, t] :: numT (i + 1) r
theorem numT_len : ∀ (k : Nat) (ts : List T), (numT k ts).length = ts.length
  | _, [] => rfl
  | k, t :: r => by show (numT (k + 1) r).length + 1 = _; rw [numT_len (k + 1) r]; rfl
theorem numT_get : ∀ (k : Nat) (ts : List T) (i : Nat) (t : T), (numT k ts)[i]? = some t → ∃ u, ts[i]? = some u ∧ t = .tup [.int ((k + i : Nat) : Int), u]
  | k, [], i, t, e => by simp [numT] at e
  | k, u :: r, 0, t, e => by
    cases e
    exact ⟨u, rfl, rfl⟩
  | k, u :: r, i + 1, t, e => by
    obtain ⟨w, h1, h2⟩ := numT_get (k + 1) r i t e
    exact ⟨w, h1, by rw [h2, show k + 1 + i = k + (i + 1) by omega]⟩
theorem Rp.pair {F : Hp} {A : List Addr} {m : List MO} {H : Hp} {p : Addr} {x y : V} {t u : T} (o : Objs K F A m H) (np : H p = none) (rx : Rp K F x t) (ry : Rp K F y u) :
    ∃ F', Nxt F A H F' A (upd H p (.tup [x, y])) ∧ Objs K F' A m (upd H p (.tup [x, y])) ∧ Rp K F' (.ref p) (.tup [t, u]) :=
  have s := same_new (o := HO.tup [x, y]) (o.fnone np)
  ⟨_, Nxt.new o np, o.new np, .tup (SqT.of upd_same) (.cons (rx.same s) (.cons (ry.same s) .nil))⟩
theorem walk_enum {F : Hp} {A : List Addr} {H : Hp} {a : Addr} {xs : List V} {ts : List T} (s : Same F H) (h : SqL K F a xs) (r : RpL K F xs ts) : Walks K F A H (Ite K a) (numT 0 ts) := fun F' A' H' m n o i => by
  have h' : SqL K H' a xs := o.sub.seq (n.seq h)
  refine ⟨fun t e => ?_, fun hi => ⟨xs, h', by rw [r.length, ← numT_len 0 ts]; exact hi⟩⟩
  obtain ⟨u, eu, rfl⟩ := numT_get 0 ts i t e
  obtain ⟨v, ev, rv⟩ := r.get eu
  refine ⟨⟨xs, v, h', ev⟩, fun x H'' ⟨T', y, ex, np, eH, q⟩ => ?_⟩
  subst ex eH
  have := q xs h'
  rw [ev] at this
  cases this
  rw [Nat.zero_add]
  exact Rp.pair o np (.int _) (rv.same n)
theorem walk_enumT {F : Hp} {A : List Addr} {H : Hp} {a : Addr} {xs : List V} {ts : List T} (s : Same F H) (h : SqT K F a xs) (r : RpL K F xs ts) : Walks K F A H (Own.IteT K a) (numT 0 ts) := fun F' A' H' m n o i => by
  have h' : SqT K H' a xs := sqT_same o.sub (sqT_same n h)
  refine ⟨fun t e => ?_, fun hi => ⟨xs, h', by rw [r.length, ← numT_len 0 ts]; exact hi⟩⟩
  obtain ⟨u, eu, rfl⟩ := numT_get 0 ts i t e
  obtain ⟨v, ev, rv⟩ := r.get eu
  refine ⟨⟨xs, v, h', ev⟩, fun x H'' ⟨T', y, ex, np, eH, q⟩ => ?_⟩
  subst ex eH
  have := q xs h'
  rw [ev] at this
  cases this
  rw [Nat.zero_add]
  exact Rp.pair o np (.int _) (rv.same n)
/-! ### zip -/
def zipT (ts us : List T) : List T := List.zipWith (fun t u => .tup [t, u]) ts us
theorem zipT_get {ts us : List T} {i : Nat} {t : T} (e : (zipT ts us)[i]? = some t) : ∃ a b, ts[i]? = some a ∧ us[i]? = some b ∧ t = .tup [a, b] := by
  unfold zipT at e
  rw [List.getElem?_zipWith] at e
  cases h1 : ts[i]? with
  | none => rw [h1] at e; cases e
  | some a =>
    cases h2 : us[i]? with
    | none => rw [h1, h2] at e; cases e
    | some b => rw [h1, h2] at e; cases e; exact ⟨a, b, rfl, rfl, rfl⟩
theorem walk_zip {F : Hp} {A : List Addr} {H : Hp} {a b : Addr} {xs ys : List V} {ts us : List T} (s : Same F H) (h : SqL K F a xs) (r : RpL K F xs ts) (g : SqL K F b ys) (q : RpL K F ys us) : Walks K F A H (Itz K a b) (zipT ts us) := fun F' A' H' m n o i => by
  have h' : SqL K H' a xs := o.sub.seq (n.seq h)
  have g' : SqL K H' b ys := o.sub.seq (n.seq g)
  refine ⟨fun t e => ?_, fun hi => ⟨xs, ys, h', g', ?_⟩⟩
  · obtain ⟨c, d, e1, e2, rfl⟩ := zipT_get e
    obtain ⟨v, ev, rv⟩ := r.get e1
    obtain ⟨u, eu, ru⟩ := q.get e2
    refine ⟨⟨xs, ys, v, u, h', g', ev, eu⟩, fun x H'' ⟨T', y, z, ex, np, eH, q1, q2⟩ => ?_⟩
    subst ex eH
    have k1 := q1 xs h'
    have k2 := q2 ys g'
    rw [ev] at k1
    rw [eu] at k2
    cases k1
    cases k2
    exact Rp.pair o np (rv.same n) (ru.same n)
  · unfold zipT at hi
    rw [List.length_zipWith] at hi
    rw [r.length, q.length]
    omega
/-- a list, only read -/
def gLs : Sl → Option (List T)
  | .val (.lst ts) => some ts
  | .val (.seq ts) => some ts
  | _ => none
theorem gLs_at {F : Hp} {A : List Addr} {x : V} {s : Sl} {ts : List T} (r : RpS K F A x s) (e : gLs s = some ts) : ∃ a xs, x = .ref a ∧ SqL K F a xs ∧ RpL K F xs ts := by
  unfold gLs at e
  split at e
  · cases e
    cases r with
    | lst h q => exact ⟨_, _, rfl, SqL.of h, q⟩
  · cases e
    cases r with
    | seq h q => exact ⟨_, _, rfl, h, q⟩
  · cases e
def gEnumL (ss : List Sl) (m : List MO) : M (List T) := match ss with
  | [s] => match gLs s with
    | some ts => rM (numT 0 ts) m
    | none => match s with
      | .val (.tup ts) => rM (numT 0 ts) m
      | _ => none
  | _ => none
def vEnum (f : VA) : VI := fun s => bM (f s) gEnumL
theorem pi_venum {e : Expr} {f : VA} {p pos tpos : Pos} {elts : List Expr} {kk : Nat} (hg : Gl X "enumerate") (hm : X.mg "enumerate" = none) (ha : PA X [e] (LA X.K W f)) (hs : starEach [e] X.env = [(false, eval e X.env)] := by rfl) : PI X (.Tuple elts kk tpos) (.Call (.Name "enumerate" p) [e] [] pos) (LI X.K W (vEnum f)) := PI.imp (Own.pi_enumS hg hm ha hs) fun σ H R ⟨F, A, ρ, m, w, g⟩ =>
  ⟨F, A, ρ, m, w, (Got.bind (R1 := fun F' A' _ vs ss => RpSs X.K F' A' vs ss) g).mono fun vs H1 ⟨F1, A1, m1, ss, n, w1, rs, q⟩ => by
    unfold gEnumL at q
    split at q
    · split at q
      · rename_i ts e
        obtain ⟨x, rfl, rx⟩ := rpSs1 rs
        obtain ⟨a, xs, rfl, h1, h2⟩ := gLs_at rx e
        exact ⟨a, xs, rfl, .inl ⟨w1.os.sub.seq h1, q.now w1 (walk_enum w1.os.sub h1 h2)⟩⟩
      · split at q
        · obtain ⟨x, rfl, rx⟩ := rpSs1 rs
          cases rx with
          | tup h1 h2 => exact ⟨_, _, rfl, .inr ⟨sqT_same w1.os.sub h1, q.now w1 (walk_enumT w1.os.sub h1 h2)⟩⟩
        · exact none_got q
    · exact none_got q⟩
def gZipL (ss : List Sl) (m : List MO) : M (List T) := match ss with
  | [s, s'] => match gLs s, gLs s' with
    | some ts, some us => rM (zipT ts us) m
    | _, _ => none
  | _ => none
def vZip (f : VA) : VI := fun s => bM (f s) gZipL
theorem pi_vzip {e e2 : Expr} {f : VA} {p pos tpos : Pos} {elts : List Expr} {kk : Nat} (hg : Gl X "zip") (hm : X.mg "zip" = none) (ha : PA X [e, e2] (LA X.K W f)) (hs : starEach [e, e2] X.env = (false, eval e X.env) :: starEach [e2] X.env := by rfl) (hpl : (backTo pos (starEach [e2] X.env)).any (·.1) = false := by rfl) : PI X (.Tuple elts kk tpos) (.Call (.Name "zip" p) [e, e2] [] pos) (LI X.K W (vZip f)) := PI.imp (pi_zip hg hm ha hs hpl) fun σ H R ⟨F, A, ρ, m, w, g⟩ =>
  ⟨F, A, ρ, m, w, (Got.bind (R1 := fun F' A' _ vs ss => RpSs X.K F' A' vs ss) g).mono fun vs H1 ⟨F1, A1, m1, ss, n, w1, rs, q⟩ => by
    unfold gZipL at q
    split at q
    · split at q
      · rename_i ts us e1 e2
        obtain ⟨x, y, rfl, rx, ry⟩ := rpSs2 rs
        obtain ⟨a, xs, rfl, h1, h2⟩ := gLs_at rx e1
        obtain ⟨b, ys, rfl, h3, h4⟩ := gLs_at ry e2
        exact ⟨a, b, xs, ys, rfl, w1.os.sub.seq h1, w1.os.sub.seq h3, q.now w1 (walk_zip w1.os.sub h1 h2 h3 h4)⟩
      · exact none_got q
    · exact none_got q⟩
/-! ### list(range(..)) -/
theorem rgV_rp {F : Hp} {a b : Int} : RpL K F (rgV a b) (intsT a (b - a).toNat) := by
  have key : ∀ (n : Nat) (lo : Int), RpL K F ((List.range n).map fun i => V.int (lo + (i : Nat))) (intsT lo n) := by
    intro n
    induction n with
    | zero => intro lo; exact .nil
    | succ n ih =>
      intro lo
      rw [List.range_succ_eq_map, List.map_cons, List.map_map]
      refine .cons (by rw [show lo + ((0 : Nat) : Int) = lo by omega]; exact .int lo) ?_
      have h := ih (lo + 1)
      have e : ((fun i : Nat => V.int (lo + (i : Nat))) ∘ Nat.succ) = fun i : Nat => V.int (lo + 1 + (i : Nat)) := by
        funext i
        show V.int (lo + ((i + 1 : Nat) : Int)) = _
        rw [show lo + ((i + 1 : Nat) : Int) = lo + 1 + (i : Nat) by omega]
      rw [e]
      exact h
  exact key _ _
def gListRg (a : Sl) (m : List MO) : M (List T) := match a with
  | .val (.int n) => if -1000000 ≤ n ∧ n ≤ 1000000 then rM (intsT 0 n.toNat) m else none
  | _ => none
def vListRg (f : VE) : VN := fun s => bM (f s) gListRg
theorem pe_vlistRg {a : Expr} {f : VE} {p pos p' pos' : Pos} (hc : X.calm = true) (hg : Gl X "list") (hm : X.mg "list" = none) (hg' : Gl X "range") (hm' : X.mg "range" = none) (ha : PE X a (LE X.K W f)) (na' : starEach [a] X.env = (false, eval a X.env) :: starEach [] X.env := by rfl)
    (na : starEach [.Call (.Name "range" p') [a] [] pos'] X.env = (false, eval (.Call (.Name "range" p') [a] [] pos') X.env) :: starEach [] X.env := by rfl) : PE X (.Call (.Name "list" p) [.Call (.Name "range" p') [a] [] pos'] [] pos) (LN X.K W (vListRg f)) :=
  PE.imp (pe_listRg hc hg hm (prg_1 hg' hm' ha na') na) fun σ H Q ⟨F, A, ρ, m, w, g⟩ => ⟨F, A, ρ, m, w, (Got.bind (R1 := rS X.K) g).mono fun x H1 ⟨F1, A1, m1, s, n1, w1, ra, q⟩ => by
    unfold gListRg at q
    split at q
    · split at q
      · rename_i n hn
        cases ra
        refine ⟨n, rfl, ⟨by omega, by omega, by omega, by omega, by omega⟩, fun l nl => ?_⟩
        have r := rgV_rp (K := X.K) (F := F1) (a := 0) (b := n)
        rw [Int.sub_zero] at r
        exact new_list n1 q w1 nl r (by rw [intsT_len]; show n.toNat ≤ 1000000; omega)
      · exact none_got q
    · exact none_got q⟩
/-! ### sorted of a list or a tuple of ints -/
abbrev rSortedS2 (K : PySem.W.Frag) : List V → Hp → VK → Prop := fun vs H Q => rSortedI K vs H Q ∨ Own.rSortedT K vs H Q
def gSortS : List Sl → List MO → M (List T)
  | [s], m => match (seqOf s m).bind intsOf with
    | some ns => if ns.length ≤ SZ then rM ((sortI ns).map T.int) m else none
    | none => none
  | _, _ => none
theorem cv_sortS : CallVN K (rSortedS2 K) gSortS := by
  intro W F0 F A0 A ρ m σ H0 H xs ss Q n w rs g
  unfold gSortS at g
  split at g
  · split at g
    · rename_i ns e
      split at g
      · rename_i hz
        obtain ⟨ts, e1, e2⟩ := bind_some e
        obtain ⟨x, rfl, rx⟩ := rpSs1 rs
        obtain ⟨a, ys, rfl, h1, h2⟩ := seqOf_at w.os rx e1
        obtain rfl := intsOf_rp h2 e2
        have fin : ∀ (ns' : List Int) (p : Addr), ns'.Perm ns → ns'.Pairwise (· ≤ ·) → H p = none → Q (.ref p) (upd H p (.lst (ns'.map V.int))) := fun ns' p hp hs np => by
          rw [sorted_uniq (hp.trans (sortI_perm ns).symm) hs (sortI_sorted ns)]
          exact new_list n g w np rp_ints (by rw [List.length_map, (sortI_perm ns).length_eq]; exact hz)
        exact h1.elim (fun h => .inl ⟨a, ns, rfl, h, fin⟩) fun h => .inr ⟨a, ns, rfl, h, fin⟩
      · exact none_got g
    · exact none_got g
  · exact none_got g
end
end Vs
end
section
/-! Vs14: instances: fields, methods by class, making, what is frozen. -/
namespace Vs
open PySem PySem.Spec PyProof.Rows L2
variable [WW]
section
variable {K : PySem.W.Frag} {W : WX} {X : Cx}
/-! ### fields -/
def FldOk (K : PySem.W.Frag) (f : Str) (ok : Addr → Bool) : Prop := ∀ C, ok C = true → Cls K C ∧ NoAttr K C f
def gFld (ok : Addr → Bool) (f : Str) (s : Sl) (m : List MO) : M Sl := match s with
  | .val (.ins C fs) => if ok C = true then match fs.lookup f with
    | some t => rM (.val t) m
    | none => none
    else none
  | .own i => match m[i]? with
    | some (.ins C fs) => if ok C = true then match fs.lookup f with
      | some t => rM t m
      | none => none
      else none
    | _ => none
  | _ => none
def vFld (ok : Addr → Bool) (f : Str) (fe : VE) : VE := fun s => bM (fe s) (gFld ok f)
theorem fld_go {F : Hp} {A : List Addr} {ρ : List (Option Sl)} {m : List MO} {σ : L2.St} {H : Hp} {x : V} {s : Sl} {f : Str} {ok : Addr → Bool} {Q : VK} (hok : FldOk K f ok) (w : Wd K F A ρ m σ H) (rx : RpS K F A x s) (g : Got K W σ ρ F A H (rS K) (gFld ok f s m) Q) :
    ∃ a C dx fs v, x = .ref a ∧ H a = some (.ins C dx fs) ∧ Cls K C ∧ NoAttr K C f ∧ fs.lookup f = some v ∧ Q v H := by
  unfold gFld at g
  split at g
  · rename_i C fs
    split at g
    · rename_i hc
      split at g
      · rename_i t et
        cases rx with
        | ins h r =>
          obtain ⟨v, ev, rv⟩ := r.lookup et
          exact ⟨_, C, _, _, v, rfl, w.os.sub _ _ h, (hok C hc).1, (hok C hc).2, ev, g.now w (show RpS K F A v (.val t) from rv)⟩
      · exact none_got g
    · exact none_got g
  · rename_i i
    split at g
    · rename_i C fs em
      split at g
      · rename_i hc
        split at g
        · rename_i t et
          obtain ⟨a, ea, rfl⟩ := rx
          obtain ⟨fa, dx, vs, eh, rg⟩ := w.os.obj i a _ ea em
          obtain ⟨v, ev, rv⟩ := rg.lookup et
          exact ⟨a, C, dx, vs, v, rfl, eh, (hok C hc).1, (hok C hc).2, ev, g.now w rv⟩
        · exact none_got g
      · exact none_got g
    · exact none_got g
  · exact none_got g
theorem pe_vfld {e : Expr} {f : Str} {fe : VE} {pos : Pos} (ok : Addr → Bool) (hok : FldOk X.K f ok) (he : PE X e (LE X.K W fe)) (hb : attributeBase e f X.env (eval e X.env) = eval e X.env := by rfl) : PE X (.Attribute e f pos) (LE X.K W (vFld ok f fe)) := PE.imp (pe_fld he hb) fun σ H Q ⟨F, A, ρ, m, w, g⟩ =>
  ⟨F, A, ρ, m, w, (Got.bind (R1 := rS X.K) g).mono fun x H1 ⟨F1, A1, m1, s, n1, w1, rx, q⟩ => fld_go hok w1 rx q⟩
/-- o.f = value -/
def putS (f : Str) (s : Sl) : List (Str × Sl) → List (Str × Sl)
  | [] => [(f, s)]
  | (g, x) :: r => if g = f then (g, s) :: r else (g, x) :: putS f s r
theorem RpG.putF {F : Hp} {A : List Addr} {f : Str} {v : V} {s : Sl} (rv : RpS K F A v s) : ∀ {vs : List (Str × V)} {fs : List (Str × Sl)}, RpG K F A vs fs → RpG K F A (putF f v vs) (putS f s fs)
  | _, _, .nil => .cons rv .nil
  | _, _, .cons (x := y) h r => by
    show RpG K F A (if y = f then _ else _) (if y = f then _ else _)
    by_cases e : y = f
    · rw [if_pos e, if_pos e]; exact .cons rv r
    · rw [if_neg e, if_neg e]; exact .cons h (RpG.putF rv r)
def gSetF (ok : Addr → Bool) (f : Str) (ρ : List (Option Sl)) (v o : Sl) (m : List MO) : R := match o with
  | .own i => match m[i]? with
    | some (.ins C fs) => if ok C = true ∧ fs.length < 1000 then some (.nx, ⟨ρ, m.set i (.ins C (putS f v fs))⟩) else none
    | _ => none
  | _ => none
def vSetF (ok : Addr → Bool) (f : Str) (fo fv : VE) : VS := fun s => bS s.ρ (fv s) fun v m1 => bS s.ρ (fo ⟨s.ρ, m1⟩) fun o m2 => gSetF ok f s.ρ v o m2
theorem setF_go {F : Hp} {A : List Addr} {ρ : List (Option Sl)} {m : List MO} {σ : L2.St} {H : Hp} {D : Ends} {v o : Sl} {x y : V} {f : Str} {ok : Addr → Bool} (hok : FldOk K f ok) (w : Wd K F A ρ m σ H) (rv : RpS K F A y v) (ro : RpS K F A x o) (q : Ran K W F A H D (gSetF ok f ρ v o m)) :
    ∃ a C dx fs, x = .ref a ∧ H a = some (.ins C dx fs) ∧ Cls K C ∧ NoAttr K C f ∧ fs.length < 1000 ∧ D.nx σ (upd H a (.ins C dx (putF f y fs))) := by
  unfold gSetF at q
  split at q
  · rename_i i
    split at q
    · rename_i C fs em
      split at q
      · rename_i hc
        obtain ⟨a, ea, rfl⟩ := ro
        obtain ⟨fa, dx, vs, eh, rg⟩ := w.os.obj i a _ ea em
        refine ⟨a, C, dx, vs, rfl, eh, (hok C hc.1).1, (hok C hc.1).2, by rw [rg.length]; exact hc.2, ?_⟩
        have wr := w.os.write ea fa (u := .ins C dx (putF f y vs)) (o := .ins C (putS f v fs)) ⟨fa, dx, _, upd_same, rg.putF rv⟩
        exact (q.later (Nxt.write (List.mem_of_getElem? ea))).nx (w.of (Same.refl _) (List.prefix_refl _) wr)
      · exact none_ran q
    · exact none_ran q
  · exact none_ran q
theorem ps_vsetF {o value : Expr} {f : Str} {fo fv : VE} {pos pos' : Pos} (ok : Addr → Bool) (hok : FldOk X.K f ok) (ho : PE X o (LE X.K W fo)) (hv : PE X value (LE X.K W fv)) (hs : swapsWith value (some (.Attribute o f pos')) pos.line X.env = pure false := by rfl) :
    PS X (.Assign [.Attribute o f pos'] value pos) (LS X.K W (vSetF ok f fo fv)) := PS.imp (ps_fld ho hv hs) fun D σ H ⟨F, A, ρ, m, w, r⟩ =>
  ⟨F, A, ρ, m, w, (Ran.bS (rS X.K) r).mono fun y H1 ⟨F1, A1, m1, v, n1, w1, rv, q1⟩ => ⟨F1, A1, ρ, m1, w1, (Ran.bS (rS X.K) q1).mono fun x H2 ⟨F2, A2, m2, o, n2, w2, ro, q2⟩ =>
    setF_go hok w2 (rv.next n2.sub n2.pre) ro q2⟩⟩
/-! ### methods, by the class of the object -/
def insOf (s : Sl) (m : List MO) : Option (Addr × List Str) := match s with
  | .val (.ins C fs) => some (C, fs.map (·.1))
  | .own i => match m[i]? with
    | some (.ins C fs) => some (C, fs.map (·.1))
    | _ => none
  | _ => none
theorem RpF.keys {F : Hp} : ∀ {vs : List (Str × V)} {ts : List (Str × T)}, RpF K F vs ts → vs.map (·.1) = ts.map (·.1)
  | _, _, .nil => rfl
  | _, _, .cons _ r => by rw [List.map_cons, List.map_cons, RpF.keys r]
theorem lookup_notin {f : Str} : ∀ {vs : List (Str × V)}, f ∉ vs.map (·.1) → vs.lookup f = none
  | [], _ => rfl
  | (g, v) :: r, h => by
    rw [List.lookup_cons]
    have ne : (f == g) = false := by rw [beq_eq_false_iff_ne]; exact fun z => h (by rw [z]; exact List.mem_cons_self ..)
    rw [ne]
    exact lookup_notin fun z => h (List.mem_cons_of_mem _ z)
theorem insOf_at {F : Hp} {A : List Addr} {m : List MO} {H : Hp} {s : Sl} {x : V} {C : Addr} {ns : List Str} (o : Objs K F A m H) (r : RpS K F A x s) (e : insOf s m = some (C, ns)) : ∃ a dx vs, x = .ref a ∧ H a = some (.ins C dx vs) ∧ vs.map (·.1) = ns := by
  unfold insOf at e
  split at e
  · cases e
    cases r with
    | ins h q => exact ⟨_, _, _, rfl, o.sub _ _ h, q.keys⟩
  · rename_i i
    split at e
    · rename_i C' fs em
      cases e
      obtain ⟨a, ea, rfl⟩ := r
      obtain ⟨fa, dx, vs, eh, rg⟩ := o.obj i a _ ea em
      exact ⟨a, dx, vs, rfl, eh, rg.keys⟩
    · cases e
  · cases e
/-- a class's method is the def that is as vf says -/
def MV (X : Cx) (m : Str) (np : Nat) (C : Addr) (vf : VF) : Prop := Cls X.K C ∧ ∃ (k : Nat) (g : Addr) (fd : FuncData) (ps : List Str), Meth X.K C m g ∧ FnOk X.prog X.w X.K X.mg X.base (L2.CX X.prog X.w) k g fd ps (SpV X.K np vf) ∧ Room k X.A ∧ Binds X.K fd ps []
def tMethD (tb : Addr → Option VF) (K : PySem.W.Frag) (m : Str) (np : Nat) (E : L2.St → XK) (ta : TE) (t : TA) : TE := fun σ H Q => ta σ H fun x H1 => ∃ a C dx fs vf, x = .ref a ∧ H1 a = some (.ins C dx fs) ∧ fs.lookup m = none ∧ tb C = some vf ∧ t σ H1 fun vs H2 => SpV K np vf (x :: vs) H2 Q (E σ)
theorem pe_methD {tb : Addr → Option VF} {m : Str} {np : Nat} {E : L2.St → XK} {o e : Expr} {es : List Expr} {ta : TE} {t : TA} {apos pos : Pos} {pl : Sem Bool} (he : PE X o ta) (hT : ∀ C vf, tb C = some vf → MV X m np C vf) (hx : ∀ σ, PassesAt (L2.CX X.prog X.w) X σ (E σ)) (ha : PA X (e :: es) t)
    (hst : starEach (e :: es) X.env = (false, eval e X.env) :: starEach es X.env := by rfl) (hpl : (backTo pos (starEach es X.env)).any (·.1) = false := by rfl)
    (ht : eval (.Call (.Attribute o m apos) (e :: es) [] pos) X.env = (do
      let ov ← eval o X.env
      standAt apos.atName
      let (f, first) ← holding [ov] (getMethod ov m pl)
      callWith pos f first (backTo pos (starEach (e :: es) X.env)) (backToKw pos (keywordEach [] X.env))) := by rfl) :
    PE X (.Call (.Attribute o m apos) (e :: es) [] pos) (tMethD tb X.K m np E ta t) := by
  refine ⟨fun pins s σ H Q I h => ?_⟩
  refine PySem.W.methodCall_KW (pl := pl) (thn (he.run pins s σ H _ I h) fun u s1 ⟨x, H1, I1, rx, a, C, dx, fs, vf, ex, ea, l, hv, q⟩ => ?_) ht
  subst ex
  obtain rfl : u = Value.ref a := rx
  obtain ⟨c, k, g, fd, ps, hm, F, hr, hb⟩ := hT C vf hv
  refine getmeth_ok I1 ea c hm l ?_
  refine PySem.W.callWith_K (first := [.ref a]) (h₀ := X.base) I.ok.mod.kin hm.kp (thn (ha.run pos pins s1 σ H1 _ I1 q) fun us s2 ⟨vs, H2, I2, r, q2⟩ => ⟨I2.kIn, ?_⟩) hst hpl
  exact run_fnS (us := .ref a :: us) (vs := .ref a :: vs) F hr hb (hx σ) I2 (.cons rfl r) q2
theorem pe_methD0 {tb : Addr → Option VF} {m : Str} {np : Nat} {E : L2.St → XK} {o : Expr} {ta : TE} {apos pos : Pos} {pl : Sem Bool} (he : PE X o ta) (hT : ∀ C vf, tb C = some vf → MV X m np C vf) (hx : ∀ σ, PassesAt (L2.CX X.prog X.w) X σ (E σ))
    (ht : eval (.Call (.Attribute o m apos) [] [] pos) X.env = (do
      let ov ← eval o X.env
      standAt apos.atName
      let (f, first) ← holding [ov] (getMethod ov m pl)
      callWith pos f first (backTo pos (starEach [] X.env)) (backToKw pos (keywordEach [] X.env))) := by rfl) :
    PE X (.Call (.Attribute o m apos) [] [] pos) (tMethD tb X.K m np E ta tNil) := by
  refine ⟨fun pins s σ H Q I h => ?_⟩
  refine PySem.W.methodCall_KW (pl := pl) (thn (he.run pins s σ H _ I h) fun u s1 ⟨x, H1, I1, rx, a, C, dx, fs, vf, ex, ea, l, hv, q⟩ => ?_) ht
  subst ex
  obtain rfl : u = Value.ref a := rx
  obtain ⟨c, k, g, fd, ps, hm, F, hr, hb⟩ := hT C vf hv
  refine getmeth_ok I1 ea c hm l ?_
  exact PySem.W.callWith_K0 (first := [.ref a]) I1.kIn hm.kp (run_fnS (us := [.ref a]) (vs := [.ref a]) F hr hb (hx σ) I1 (.cons rfl .nil) q)
def vMethD (tb : Addr → Option VF) (m : Str) (fo : VE) (fa : VA) : VE := fun s => bM (fo s) fun o m1 => match insOf o m1 with
  | some (C, ns) => if m ∉ ns then match tb C with
    | some vf => bM (fa ⟨s.ρ, m1⟩) fun ss m2 => callM vf (o :: ss) m2
    | none => none
    else none
  | none => none
theorem le_methD {tb : Addr → Option VF} {m : Str} {np : Nat} {fo : VE} {fa : VA} (hn : ∀ s ss m, fa s = some (.ok ss, m) → ss.length + 1 = np) {σ : L2.St} {H : Hp} {Q : VK} (h : LE K W (vMethD tb m fo fa) σ H Q) : tMethD tb K m np (WE W) (LE K W fo) (LA K W fa) σ H Q := by
  obtain ⟨F, A, ρ, m0, w, got⟩ := h
  refine ⟨F, A, ρ, m0, w, (Got.bind (R1 := rS K) got).mono fun x H1 ⟨F1, A1, m1, o, n1, w1, ro, q⟩ => ?_⟩
  split at q
  · rename_i C ns e
    split at q
    · rename_i hns
      split at q
      · rename_i vf ev
        obtain ⟨a, dx, vs, rfl, ea, ek⟩ := insOf_at w1.os ro e
        refine ⟨a, C, dx, vs, vf, rfl, ea, lookup_notin (by rw [ek]; exact hns), ev, F1, A1, ρ, m1, w1, ?_⟩
        match e2 : fa ⟨ρ, m1⟩, q with
        | none, q => exact none_got (show Got K W σ ρ F1 A1 H1 (rS K) none Q from q)
        | some (.ex D fs, m2), q =>
          have q : Got K W σ ρ F1 A1 H1 (rS K) (some (.ex D fs, m2)) Q := q
          obtain ⟨_, _, z, q⟩ := q
          cases z
          exact ⟨_, _, rfl, q⟩
        | some (.ok ss, m2), q =>
          have q : Got K W σ ρ F1 A1 H1 (rS K) (callM vf (o :: ss) m2) Q := q
          have hl := hn _ _ _ e2
          exact ⟨_, _, rfl, fun F2 A2 ws H2 n2 w2 rs => call_got (by rw [List.length_cons, RpSs.length rs]; exact hl) w2 (.cons (ro.next n2.sub n2.pre) rs) (Got.later q n2)⟩
      · exact none_got q
    · exact none_got q
  · exact none_got q
theorem pe_vmethD {tb : Addr → Option VF} {m : Str} {np : Nat} {o e : Expr} {es : List Expr} {fo : VE} {fa : VA} {apos pos : Pos} {pl : Sem Bool} (tk : Takes X W) (hT : ∀ C vf, tb C = some vf → MV X m np C vf) (hn : ∀ s ss m, fa s = some (.ok ss, m) → ss.length + 1 = np) (ho : PE X o (LE X.K W fo)) (ha : PA X (e :: es) (LA X.K W fa))
    (hst : starEach (e :: es) X.env = (false, eval e X.env) :: starEach es X.env := by rfl) (hpl : (backTo pos (starEach es X.env)).any (·.1) = false := by rfl)
    (ht : eval (.Call (.Attribute o m apos) (e :: es) [] pos) X.env = (do
      let ov ← eval o X.env
      standAt apos.atName
      let (f, first) ← holding [ov] (getMethod ov m pl)
      callWith pos f first (backTo pos (starEach (e :: es) X.env)) (backToKw pos (keywordEach [] X.env))) := by rfl) :
    PE X (.Call (.Attribute o m apos) (e :: es) [] pos) (LE X.K W (vMethD tb m fo fa)) := PE.imp (pe_methD ho hT (fun σ => passAt tk σ) ha hst hpl ht) fun _ _ _ => le_methD hn
theorem tNil_LA {f : VE} {tb : Addr → Option VF} {m : Str} {np : Nat} {σ : L2.St} {H : Hp} {Q : VK} (h : tMethD tb K m np (WE W) (LE K W f) (LA K W vNil) σ H Q) : tMethD tb K m np (WE W) (LE K W f) tNil σ H Q := by
  obtain ⟨F, A, ρ, m0, w, got⟩ := h
  refine ⟨F, A, ρ, m0, w, got.mono fun x H1 ⟨a, C, dx, fs, vf, ex, ea, l, hv, q⟩ => ⟨a, C, dx, fs, vf, ex, ea, l, hv, ?_⟩⟩
  obtain ⟨F2, A2, ρ2, m2, w2, g2⟩ := q
  exact g2.now w2 .nil
theorem pe_vmethD0 {tb : Addr → Option VF} {m : Str} {o : Expr} {fo : VE} {apos pos : Pos} {pl : Sem Bool} (tk : Takes X W) (hT : ∀ C vf, tb C = some vf → MV X m 1 C vf) (ho : PE X o (LE X.K W fo))
    (ht : eval (.Call (.Attribute o m apos) [] [] pos) X.env = (do
      let ov ← eval o X.env
      standAt apos.atName
      let (f, first) ← holding [ov] (getMethod ov m pl)
      callWith pos f first (backTo pos (starEach [] X.env)) (backToKw pos (keywordEach [] X.env))) := by rfl) :
    PE X (.Call (.Attribute o m apos) [] [] pos) (LE X.K W (vMethD tb m fo vNil)) := PE.imp (pe_methD0 ho hT (fun σ => passAt tk σ) ht) fun _ _ _ h => tNil_LA (le_methD (fun s ss m e => by rw [vnil_len s ss m e]) h)
/-! ### an instance is made -/
def vMake (C : Addr) (vf : VF) (fa : VA) : VE := fun s => bM (fa s) fun ss m1 => bM (callM vf (.own m1.length :: ss) (m1 ++ [.ins C []])) fun r m2 => match r with
  | .val .non => rM (.own m1.length) m2
  | _ => none
theorem make_go {np : Nat} {C : Addr} {vf : VF} {F : Hp} {A : List Addr} {ρ : List (Option Sl)} {m1 : List MO} {σ : L2.St} {H1 : Hp} {vs : List V} {ss : List Sl} {Q : VK} (hl : vs.length + 1 = np) (w1 : Wd K F A ρ m1 σ H1) (rs : RpSs K F A vs ss)
    (q : Got K W σ ρ F A H1 (rS K) (bM (callM vf (.own m1.length :: ss) (m1 ++ [.ins C []])) fun r m2 => match r with
      | .val .non => rM (.own m1.length) m2
      | _ => none) Q) (x dx : Addr) (nx : H1 x = none) (nd : H1 dx = none) (ne : dx ≠ x) : SpV K np vf (.ref x :: vs) (upd (upd H1 dx (.own x)) x (.ins C dx [])) (fun v H2 => v = .non ∧ Q (.ref x) H2) (WE W σ) := by
  have o1 : Objs K F A m1 (upd H1 dx (.own x)) := w1.os.keep nd
  have nx1 : upd H1 dx (.own x) x = none := by rw [upd_ne (Ne.symm ne)]; exact nx
  have n0 : Nxt F A H1 F A (upd H1 dx (.own x)) := ⟨Same.refl _, List.prefix_refl _, fun _ _ e => .inl e, fun _ h => .inl h, fun a o e _ => by rw [upd_ne (ne_of_none e nd)]; exact e⟩
  have xA : x ∉ A := w1.os.notin nx
  have fx : F x = none := w1.os.fnone nx
  have o2 : Objs K F (A ++ [x]) (m1 ++ [.ins C []]) (upd (upd H1 dx (.own x)) x (.ins C dx [])) := (o1.over fx xA).addO xA ⟨_, upd_same⟩ ⟨fx, dx, [], upd_same, .nil⟩
  have n2 : Nxt F A H1 F (A ++ [x]) (upd (upd H1 dx (.own x)) x (.ins C dx [])) := n0.addp nx
  have w2 := w1.of (Same.refl _) (List.prefix_append A [x]) o2
  have rx : RpS K F (A ++ [x]) (.ref x) (.own m1.length) := ⟨x, by rw [← w1.os.len, List.getElem?_append_right (Nat.le_refl _), Nat.sub_self]; rfl, rfl⟩
  have rs2 : RpSs K F (A ++ [x]) vs ss := by
    clear q hl
    induction rs with
    | nil => exact .nil
    | cons h _ ih => exact .cons (h.next (Same.refl _) (List.prefix_append _ _)) ih
  refine call_got (by rw [List.length_cons]; exact hl) w2 (.cons rx rs2) ((Got.bind (R1 := rS K) (Got.later q n2)).mono fun b H3 ⟨F3, A3, m3, r, n3, w3, rr, q3⟩ => ?_)
  split at q3
  · cases rr
    refine ⟨rfl, q3.now w3 ?_⟩
    exact rx.next n3.sub n3.pre
  · exact none_got q3
theorem le_make {np : Nat} {C : Addr} {vf : VF} {fa : VA} (hn : ∀ s ss m, fa s = some (.ok ss, m) → ss.length + 1 = np) {σ : L2.St} {H : Hp} {Q : VK} (h : LE K W (vMake C vf fa) σ H Q) : Own.tMakeS C (SpV K np vf) [] (WE W) (LA K W fa) σ H Q := by
  obtain ⟨F, A, ρ, m, w, g⟩ := h
  refine ⟨F, A, ρ, m, w, ?_⟩
  match e : fa ⟨ρ, m⟩, g with
  | none, g => unfold vMake at g; rw [e] at g; exact none_got g
  | some (.ex D fs, m1), g =>
    unfold vMake at g
    rw [e] at g
    obtain ⟨_, _, z, g⟩ := g
    cases z
    exact ⟨_, _, rfl, g⟩
  | some (.ok ss, m1), g =>
    unfold vMake at g
    rw [e] at g
    have hl := hn _ _ _ e
    refine ⟨_, _, rfl, fun F1 A1 vs H1 n1 w1 rs x dx nx nd ne => ?_⟩
    rw [List.append_nil]
    exact make_go (by rw [RpSs.length rs]; exact hl) w1 rs (Got.later g n1) x dx nx nd ne
theorem pe_vmake {np k : Nat} {C f : Addr} {fd : FuncData} {ps : List Str} {vf : VF} {fa : VA} {x : Str} {e : Expr} {es : List Expr} {p pos : Pos} (M : Mk X.K C f) (F : FnOk X.prog X.w X.K X.mg X.base (L2.CX X.prog X.w) k f fd ps (SpV X.K np vf)) (hr : Room (k + 1) X.A) (hg : Gl X x) (hm : X.mg x = some (.ref C)) (hb : Binds X.K fd ps []) (tk : Takes X W)
    (ha : PA X (e :: es) (LA X.K W fa)) (hn : ∀ s ss m, fa s = some (.ok ss, m) → ss.length + 1 = np) (hdb : (x == ("__debug__" : Str)) = false := by decide) (he : starEach (e :: es) X.env = (false, eval e X.env) :: starEach es X.env := by rfl) (hpl : (backTo pos (starEach es X.env)).any (·.1) = false := by rfl) :
    PE X (.Call (.Name x p) (e :: es) [] pos) (LE X.K W (vMake C vf fa)) := PE.imp (Own.pe_makeS M F hr hg hm hb .nil (fun σ => passAt tk σ) ha hdb he hpl) fun _ _ _ => le_make hn
/-! ### an instance that is never changed again -/
def allVal : List (Str × Sl) → Option (List (Str × T))
  | [] => some []
  | (x, .val t) :: r => (allVal r).map ((x, t) :: ·)
  | _ => none
theorem allVal_rp {F : Hp} {A : List Addr} : ∀ {vs : List (Str × V)} {fs : List (Str × Sl)} {ts : List (Str × T)}, RpG K F A vs fs → allVal fs = some ts → RpF K F vs ts
  | _, _, ts, .nil, e => by cases e; exact .nil
  | _, (x, s) :: r, ts, .cons h q, e => by
    cases s with
    | val t =>
      unfold allVal at e
      cases z : allVal r with
      | none => rw [z] at e; cases e
      | some us => rw [z] at e; cases e; exact .cons h (allVal_rp q z)
    | own i => cases e
theorem RpF.same' {F F' : Hp} (e : Same F F') {vs : List (Str × V)} {ts : List (Str × T)} (r : RpF K F vs ts) : RpF K F' vs ts := RpF.same e r
theorem freezeU {F : Hp} {A : List Addr} {ρ : List (Option Sl)} {m : List MO} {σ : L2.St} {H : Hp} {i : Nat} {a : Addr} {u : HO} (w : Wd K F A ρ m σ H) (ea : A[i]? = some a) (fa : F a = none) (eh : H a = some u) :
    Nxt F A H (upd F a u) A H ∧ Wd K (upd F a u) A ρ (m.set i .dead) σ H := by
  have s1 : Same F (upd F a u) := same_new fa
  refine ⟨⟨s1, List.prefix_refl _, fun b u' e => ?_, fun _ h => .inl h, fun _ _ e _ => e⟩, w.of s1 (List.prefix_refl _) ⟨fun b u' e => ?_, by rw [List.length_set]; exact w.os.len, w.os.nd, w.os.there, fun j b o h1 h2 => ?_⟩⟩
  · by_cases z : b = a
    · subst z; exact .inr (.inr (List.mem_of_getElem? ea))
    · rw [upd_ne z] at e; exact .inl e
  · by_cases z : b = a
    · subst z; rw [upd_same] at e; rw [eh]; exact e
    · rw [upd_ne z] at e; exact w.os.sub b u' e
  · by_cases z : i = j
    · subst z
      have hl : i < m.length := by
        have := (List.getElem?_eq_some_iff.mp h2).1
        rw [List.length_set] at this
        exact this
      rw [List.getElem?_set_self hl] at h2
      cases h2
      trivial
    · rw [List.getElem?_set_ne z] at h2
      have ne : b ≠ a := fun q => by
        subst q
        obtain ⟨l1, e1⟩ := List.getElem?_eq_some_iff.mp ea
        obtain ⟨l2, e2⟩ := List.getElem?_eq_some_iff.mp h1
        exact z ((List.getElem_inj w.os.nd).mp (e1.trans e2.symm))
      exact (w.os.obj j b o h1 h2).next s1 (List.prefix_refl _) (fun _ e => e) fun e => by rw [upd_ne ne]; exact e
def gIns (r : Sl) (m : List MO) : M Sl := match r with
  | .own i => match m[i]? with
    | some (.ins C fs) => match allVal fs with
      | some ts => rM (.val (.ins C ts)) (m.set i .dead)
      | none => none
    | some (.lst ts) => rM (.val (.lst ts)) (m.set i .dead)
    | _ => none
  | s => rM s m
/-- what comes is frozen -/
def vIns (f : VE) : VE := fun s => bM (f s) gIns
theorem le_ins {f : VE} {σ : L2.St} {H : Hp} {Q : VK} (h : LE K W (vIns f) σ H Q) : LE K W f σ H Q := by
  obtain ⟨F, A, ρ, m, w, got⟩ := h
  refine ⟨F, A, ρ, m, w, (Got.bind (R1 := rS K) got).mono fun x H1 ⟨F1, A1, m1, a, n1, w1, ra, q⟩ => ?_⟩
  unfold gIns at q
  split at q
  · rename_i i
    split at q
    · rename_i C fs em
      split at q
      · rename_i ts et
        obtain ⟨ad, ea, rfl⟩ := ra
        obtain ⟨fa, dx, vs, eh, rg⟩ := w1.os.obj i ad _ ea em
        obtain ⟨n2, w2⟩ := freezeU w1 ea fa eh
        exact q.fin n2 w2 (show RpS K _ A1 (.ref ad) (.val (.ins C ts)) from .ins upd_same ((allVal_rp rg et).same' n2.sub))
      · exact none_got q
    · rename_i ts em
      obtain ⟨ad, ea, rfl⟩ := ra
      obtain ⟨fa, xs, eh, rl⟩ := w1.os.obj i ad _ ea em
      obtain ⟨n2, w2⟩ := freezeU w1 ea fa eh
      exact q.fin n2 w2 (show RpS K _ A1 (.ref ad) (.val (.lst ts)) from .lst upd_same (rl.same n2.sub))
    · exact none_got q
  · exact q.now w1 ra
theorem pe_vins {e : Expr} {f : VE} (h : PE X e (LE K W f)) : PE X e (LE K W (vIns f)) := PE.imp h fun _ _ _ => le_ins
end
end Vs
end
section
/-! Vs15: -i, **, xs[::-1], join. -/
namespace Vs
open PySem PySem.Spec PyProof.Rows L2
variable [WW]
section
variable {K : PySem.W.Frag} {W : WX} {X : Cx}
theorem pe_vneg {i : Int} {j : Nat} {p pos : Pos} : PE X (.UnaryOp .USub (.Constant (.int i) j p) pos) (LE X.K W (vC (.int (-i)))) := PE.imp (pe_un un_neg pe_int) fun σ H Q h => ⟨i, rfl, le_c (v := .int (-i)) (t := .int (-i)) (fun _ => .int _) h⟩
def cPow (i j : Int) : Bool := decide (0 ≤ j ∧ j ≤ 1000000 ∧ i.natAbs < 2 ^ 64)
theorem cPow_ok (i j : Int) (h : cPow i j = true) : CPow i j := by
  unfold cPow at h
  have h2 := of_decide_eq_true h
  exact h2
theorem pe_vpow {a b : Expr} {fa fb : VE} {pos : Pos} (ha : PE X a (LE X.K W fa)) (hb : PE X b (LE X.K W fb)) : PE X (.BinOp a .Pow b pos) (LE X.K W (vBin (gIntC cPow fun i j => .int (i ^ j.toNat)) fa fb)) := pe_vop op_pow (ov_intC cPow_ok fun _ _ _ => .int _) ha hb
theorem pe_vge {a b : Expr} {fa fb : VE} {pos : Pos} (ha : PE X a (LE X.K W fa)) (hb : PE X b (LE X.K W fb)) : PE X (.Compare a [.GtE] [b] pos) (LE X.K W (vBin (gInt fun i j => .bl (decide (j ≤ i))) fa fb)) := pe_vcmp op_ge (ov_int fun _ _ _ => .bl _) ha hb (nobehind _ (by decide) (by decide))
/-- xs[::-1] -/
def gRev (a : Sl) (m : List MO) : M (List T) := match lsqOf a m with
  | some ts => if ts.length ≤ SZ then rM ts.reverse m else none
  | none => none
def vRev (f : VE) : VN := fun s => bM (f s) gRev
theorem pe_vrev {e : Expr} {f : VE} {k : Nat} {p1 p2 p3 pos : Pos} (he : PE X e (LE X.K W f)) : PE X (.Subscript e (.Slice none none (some (.UnaryOp .USub (.Constant (.int 1) k p1) p2)) p3) pos) (LN X.K W (vRev f)) := PE.imp (pe_revL he) fun σ H Q ⟨F, A, ρ, m, w, g⟩ =>
  ⟨F, A, ρ, m, w, (Got.bind (R1 := rS X.K) g).mono fun x H1 ⟨F1, A1, m1, s, n1, w1, ra, q⟩ => by
    unfold gRev at q
    split at q
    · rename_i ts e
      split at q
      · rename_i hz
        obtain ⟨a, xs, rfl, h1, h2⟩ := lsqOf_at w1.os ra e
        exact ⟨a, xs, rfl, h1, fun p np => new_list n1 q w1 np h2.reverse (by rw [List.length_reverse]; exact hz)⟩
      · exact none_got q
    · exact none_got q⟩
/-! ### sep.join(xs) -/
abbrev rJoin (K : PySem.W.Frag) : V → List V → Hp → VK → Prop := fun x xs H Q => ∃ a p, ∃ ys : List Str, x = .str a ∧ xs = [.ref p] ∧ (SqL K H p (ys.map V.str) ∨ SqT K H p (ys.map V.str)) ∧ (ys.map (·.length)).sum + ys.length * a.length ≤ 16777216 ∧ Q (.str (Txt.join a ys)) H
def gJoin (o : Sl) (ss : List Sl) (m : List MO) : M Sl := match o, ss with
  | .val (.str a), [s] => match (seqOf s m).bind strsOf with
    | some ys => if (ys.map (·.length)).sum + ys.length * a.length ≤ 16777216 then rM (.val (.str (Txt.join a ys))) m else none
    | none => none
  | _, _ => none
end
end Vs
end
section
/-! Vs16: two names at once, join, what the translator names. -/
namespace Vs
open PySem PySem.Spec PyProof.Rows L2
variable [WW]
section
variable {K : PySem.W.Frag} {W : WX} {X : Cx}
theorem hu1 {n : Nat} (h : n + 64 < cLine) : n + 1 < cLine := Nat.lt_of_le_of_lt (Nat.add_le_add_left (by decide) _) h
/-- a, b = x, y -/
def gPar (i j : Nat) (ρ : List (Option Sl)) (ss : List Sl) (m : List MO) : R := match ss with
  | [a, b] => some (.nx, ⟨(ρ.set i (some a)).set j (some b), m⟩)
  | _ => none
def vPar (i j : Nat) (f : VA) : VS := fun s => bS s.ρ (f s) (gPar i j s.ρ)
theorem ps_vpar {i j : Nat} {x y : Str} {a b : Expr} {f : VA} {px py pt : Pos} {kt k2 pt2} {pos : Pos} (hc : X.calm = true) (hN : X.N.Nodup) (hi : X.N[i]? = some x) (hj : X.N[j]? = some y) (hij : i ≠ j)
    (hx : X.env.scope.names.lookup x = some .local) (hy : X.env.scope.names.lookup y = some .local) (ha : PA X [a, b] (LA X.K W f))
    (hw : swappedStores [.Tuple [.Name x px, .Name y py] kt pt] (.Tuple [a, b] k2 pt2) X.env = pure (some [x, y]))
    (hs : swapsWithSole [.Tuple [.Name x px, .Name y py] kt pt] (.Tuple [a, b] k2 pt2) pos.line X.env = pure false := by rfl) :
    PS X (.Assign [.Tuple [.Name x px, .Name y py] kt pt] (.Tuple [a, b] k2 pt2) pos) (LS X.K W (vPar i j f)) := PS.imp (ps_par hc hN hi hj hij hx hy ha hw hs) fun D σ H ⟨F, A, ρ, m, w, r⟩ =>
  ⟨F, A, ρ, m, w, (Ran.bS (fun F' A' _ vs ss => RpSs X.K F' A' vs ss) r).mono fun vs H1 ⟨F1, A1, m1, ss, n1, w1, rs, q⟩ => by
    unfold gPar at q
    split at q
    · obtain ⟨v, u, rfl, rv, ru⟩ := rpSs2 rs
      exact ⟨v, u, rfl, q.nx ((w1.set rv).set ru)⟩
    · exact none_ran q⟩
/-- name = [.. for ..] -/
theorem ls_set {i : Nat} {f : VE} {D : Ends} {σ : L2.St} {H : Hp} (h : LS K W (vSet i f) D σ H) : LE K W f σ H fun v H1 => D.nx (σ.set i (some v)) H1 := by
  obtain ⟨F, A, ρ, m, w, r⟩ := h
  exact ⟨F, A, ρ, m, w, (Ran.bS (rS K) r).mono fun b H1 ⟨F1, A1, m1, a, n, w1, ra, q⟩ => q.nx (w1.set ra)⟩
theorem ps_vsetLc {i : Nat} {y : Str} {py : Pos} {elt tg iter : Expr} {ifs : List Expr} {scope : Scope} (own : List (Str × Nat)) {pos spos : Pos} {it : VI} {L : List Nat} {g : VG} {tt : VT} {te : VE} (hL : ∀ i ∈ L, i ∈ own.map (·.2)) (hc : X.calm = true) (hN : X.N.Nodup) (hy : X.N[i]? = some y) (hyl : X.env.scope.names.lookup y = some .local)
    (hsw : swapsWith (.ListComp elt [⟨tg, iter, ifs, 0⟩] scope pos) (some (.Name y py)) spos.line X.env = pure true) (hi : PI X tg iter (LI X.K W it)) (ok : BlkOk X.N X.env.scope scope own)
    (hg : ∀ (s : Shared) (H : Hp) (C : Addr) (cl : List (Str × Addr)) (fp : List Addr), PG (X.blk s H scope (compEnvC scope cl C X.env) fp) tg (LG X.K L g)) (ht : ∀ (s : Shared) (H : Hp) (C : Addr) (cl : List (Str × Addr)) (fp : List Addr), PTs (X.blk s H scope (compEnvC scope cl C X.env) fp) ifs (LT X.K W0 tt))
    (he : ∀ (s : Shared) (H : Hp) (C : Addr) (cl : List (Str × Addr)) (fp : List Addr), PE (X.blk s H scope (compEnvC scope cl C X.env) fp) elt (LE X.K W0 te)) (hs : ∀ x, foldedSetIterable iter X.env x = pure x := by intro _; rfl) :
    PS X (.Assign [.Name y py] (.ListComp elt [⟨tg, iter, ifs, 0⟩] scope pos) spos) (LS X.K W (vSet i (vVal (vComp (own.map (·.2)) it g tt te)))) := PS.imp (ps_setLc hc hN hy hyl hsw hi ok hg ht he hs) fun D σ H h => le_comp hL (le_val (ls_set h))
theorem ps_vsetLcO {i : Nat} {y : Str} {py : Pos} {elt tg iter : Expr} {ifs : List Expr} {scope : Scope} (own : List (Str × Nat)) {pos spos : Pos} {it : VI} {L : List Nat} {g : VG} {tt : VT} {te : VE} (hL : ∀ i ∈ L, i ∈ own.map (·.2)) (hc : X.calm = true) (hN : X.N.Nodup) (hy : X.N[i]? = some y) (hyl : X.env.scope.names.lookup y = some .local)
    (hsw : swapsWith (.ListComp elt [⟨tg, iter, ifs, 0⟩] scope pos) (some (.Name y py)) spos.line X.env = pure true) (hi : PI X tg iter (LI X.K W it)) (ok : BlkOk X.N X.env.scope scope own)
    (hg : ∀ (s : Shared) (H : Hp) (C : Addr) (cl : List (Str × Addr)) (fp : List Addr), PG (X.blk s H scope (compEnvC scope cl C X.env) fp) tg (LG X.K L g)) (ht : ∀ (s : Shared) (H : Hp) (C : Addr) (cl : List (Str × Addr)) (fp : List Addr), PTs (X.blk s H scope (compEnvC scope cl C X.env) fp) ifs (LT X.K W0 tt))
    (he : ∀ (s : Shared) (H : Hp) (C : Addr) (cl : List (Str × Addr)) (fp : List Addr), PE (X.blk s H scope (compEnvC scope cl C X.env) fp) elt (LE X.K W0 te)) (hs : ∀ x, foldedSetIterable iter X.env x = pure x := by intro _; rfl) :
    PS X (.Assign [.Name y py] (.ListComp elt [⟨tg, iter, ifs, 0⟩] scope pos) spos) (LS X.K W (vSet i (vOwn (vComp (own.map (·.2)) it g tt te)))) := PS.imp (ps_setLc hc hN hy hyl hsw hi ok hg ht he hs) fun D σ H h => le_comp hL (le_own (ls_set h))
/-- a method of a text -/
def isStr (o : Sl) : Bool := match o with
  | .val (.str _) => true
  | _ => false
def vMetS (g : Sl → List Sl → List MO → M Sl) (fo : VE) (fa : VA) : VE := fun s => bM (fo s) fun o m1 => if isStr o = true then bM (fa ⟨s.ρ, m1⟩) fun ss m2 => g o ss m2 else none
theorem le_metS {r : V → List V → Hp → VK → Prop} {g : Sl → List Sl → List MO → M Sl} {fo : VE} {fa : VA} (hv : MetV K r g) {σ : L2.St} {H : Hp} {Q : VK} (h : LE K W (vMetS g fo fa) σ H Q) : tBM K "str" r (LE K W fo) (LA K W fa) σ H Q := by
  obtain ⟨F, A, ρ, m, w, got⟩ := h
  refine ⟨F, A, ρ, m, w, (Got.bind (R1 := rS K) got).mono fun x H1 ⟨F1, A1, m1, o, n1, w1, ro, q⟩ => ?_⟩
  by_cases e : isStr o = true
  · rw [if_pos e] at q
    unfold isStr at e
    split at e
    · refine ⟨?_, F1, A1, ρ, m1, w1, (Got.bind (R1 := fun F' A' _ vs ss => RpSs K F' A' vs ss) q).mono fun vs H2 ⟨F2, A2, m2, ss, n2, w2, rs, g2⟩ => hv W F2 A2 ρ m2 σ H2 _ vs _ ss Q w2 (ro.next n2.sub n2.pre) rs g2⟩
      cases ro
      exact rfl
    · cases e
  · rw [if_neg e] at q; exact none_got q
theorem mv_join : MetV K (rJoin K) gJoin := by
  intro W F A ρ m σ H x xs o ss Q w ro rs g
  unfold gJoin at g
  split at g
  · split at g
    · rename_i ys e
      split at g
      · rename_i hz
        obtain ⟨ts, e1, e2⟩ := bind_some e
        cases ro
        obtain ⟨y, rfl, ry⟩ := rpSs1 rs
        obtain ⟨p, vs, rfl, h1, h2⟩ := seqOf_at w.os ry e1
        obtain rfl := strsOf_rp h2 e2
        exact ⟨_, p, ys, rfl, rfl, h1, hz, g.now w (.str _)⟩
      · exact none_got g
    · exact none_got g
  · exact none_got g
def vM1 (g : Sl → List Sl → List MO → M Sl) (fo fe : VE) : VE := fun s => bM (fo s) fun o m1 => if isStr o = true then bM (fe ⟨s.ρ, m1⟩) fun a m2 => g o [a] m2 else none
theorem le_m1 {r : V → List V → Hp → VK → Prop} {g : Sl → List Sl → List MO → M Sl} {fo fe : VE} (hv : MetV K r g) {σ : L2.St} {H : Hp} {Q : VK} (h : LE K W (vM1 g fo fe) σ H Q) : tM1 r (LE K W fo) (LE K W fe) σ H Q := by
  obtain ⟨F, A, ρ, m, w, got⟩ := h
  refine ⟨F, A, ρ, m, w, (Got.bind (R1 := rS K) got).mono fun x H1 ⟨F1, A1, m1, o, n1, w1, ro, q⟩ => ?_⟩
  by_cases e : isStr o = true
  · rw [if_pos e] at q
    unfold isStr at e
    split at e
    · refine ⟨?_, F1, A1, ρ, m1, w1, (Got.bind (R1 := rS K) q).mono fun y H2 ⟨F2, A2, m2, s, n2, w2, rs, g2⟩ => hv W F2 A2 ρ m2 σ H2 _ [y] _ [s] Q w2 (ro.next n2.sub n2.pre) (.cons rs .nil) g2⟩
      cases ro
      exact ⟨_, rfl⟩
    · cases e
  · rw [if_neg e] at q; exact none_got q
theorem pe_vjoin {o e : Expr} {fo fe : VE} {apos pos : Pos} (ho : PE X o (LE X.K W fo)) (he : PE X e (LE X.K W fe)) (hs : starEach [e] X.env = [(false, eval e X.env)] := by rfl) (hbase : attributeBase o "join" X.env (eval o X.env) = eval o X.env := by rfl) (hline : (apos.endLine == pos.line) = true := by rfl) :
    PE X (.Call (.Attribute o "join" apos) [e] [] pos) (LE X.K W (vM1 gJoin fo fe)) := PE.imp (pe_join ho he hs hbase hline) fun _ _ _ => le_m1 mv_join
end
abbrev dEq : Sl → Sl → List MO → M Sl := gDat PyData.eqv
abbrev dNe : Sl → Sl → List MO → M Sl := gDat fun d e => !PyData.eqv d e
abbrev dDiv : Sl → Sl → List MO → M Sl := gIntC cDiv fun i j => .int (i / j)
abbrev dMod : Sl → Sl → List MO → M Sl := gIntC cPos fun i j => .int (i % j)
abbrev dMul : Sl → Sl → List MO → M Sl := gIntC cMul fun i j => .int (i * j)
abbrev dPow : Sl → Sl → List MO → M Sl := gIntC cPow fun i j => .int (i ^ j.toNat)
abbrev dSub : Sl → Sl → List MO → M Sl := gInt fun i j => .int (i - j)
abbrev dLt : Sl → Sl → List MO → M Sl := gInt fun i j => .bl (decide (i < j))
abbrev dLe : Sl → Sl → List MO → M Sl := gInt fun i j => .bl (decide (i ≤ j))
abbrev dGt : Sl → Sl → List MO → M Sl := gInt fun i j => .bl (decide (j < i))
abbrev dGe : Sl → Sl → List MO → M Sl := gInt fun i j => .bl (decide (j ≤ i))
/-- a def of the module -/
structure DV (P : Program) (w : World) (K : PySem.W.Frag) (mg : Str → Option Value) (base : Heap) (x : Str) (k np : Nat) (vf : VF) where
  a : Addr
  fd : FuncData
  ps : List Str
  m : mg x = some (.ref a)
  kp : PySem.W.keepIn K (.ref a) = true
  g : FnOk P w K mg base (L2.CX P w) k a fd ps (SpV K np vf)
  b : Binds K fd ps []
structure Bn (mg : Str → Option Value) : Prop where
  int_ : mg "int" = none
  abs_ : mg "abs" = none
  len_ : mg "len" = none
  range_ : mg "range" = none
  list_ : mg "list" = none
  tuple_ : mg "tuple" = none
  str_ : mg "str" = none
  max_ : mg "max" = none
  min_ : mg "min" = none
  sorted_ : mg "sorted" = none
  enumerate_ : mg "enumerate" = none
  zip_ : mg "zip" = none
  isinstance_ : mg "isinstance" = none
  bool_ : mg "bool" = none
  any_ : mg "any" = none
  all_ : mg "all" = none
  sum_ : mg "sum" = none
end Vs
end
section
/-! Vs17: and, or, not as values; isinstance. -/
namespace Vs
open PySem PySem.Spec PyProof.Rows L2
variable [WW]
section
variable {K : PySem.W.Frag} {W : WX} {X : Cx} {a b : Expr} {rest : List Expr} {fa fb : VE} {pos : Pos}
def gAndV (fb : VE) (ρ : List (Option Sl)) (x : Sl) (m : List MO) : M Sl := match x with
  | .val (.bl true) => fb ⟨ρ, m⟩
  | .val (.bl false) => rM (.val (.bl false)) m
  | _ => none
def vAndV (fa fb : VE) : VE := fun s => bM (fa s) (gAndV fb s.ρ)
theorem pe_vandV (ha : PE X a (LE K W fa)) (hb : PE X (.BoolOp .And (b :: rest) pos) (LE K W fb)) : PE X (.BoolOp .And (a :: b :: rest) pos) (LE K W (vAndV fa fb)) := PE.imp (pe_and ha hb) fun σ H Q ⟨F, A, ρ, m, w, g⟩ =>
  ⟨F, A, ρ, m, w, (Got.bind (R1 := rS K) g).mono fun x H1 ⟨F1, A1, m1, s, n1, w1, rx, q⟩ => by
    unfold gAndV at q
    split at q
    · cases rx
      exact ⟨true, rfl, by rw [if_pos rfl]; exact ⟨F1, A1, ρ, m1, w1, q⟩⟩
    · cases rx
      exact ⟨false, rfl, by rw [if_neg Bool.false_ne_true]; exact q.now w1 (.bl false)⟩
    · exact none_got q⟩
def gOrV (fb : VE) (ρ : List (Option Sl)) (x : Sl) (m : List MO) : M Sl := match x with
  | .val (.bl true) => rM (.val (.bl true)) m
  | .val (.bl false) => fb ⟨ρ, m⟩
  | _ => none
def vOrV (fa fb : VE) : VE := fun s => bM (fa s) (gOrV fb s.ρ)
theorem pe_vorV (ha : PE X a (LE K W fa)) (hb : PE X (.BoolOp .Or (b :: rest) pos) (LE K W fb)) : PE X (.BoolOp .Or (a :: b :: rest) pos) (LE K W (vOrV fa fb)) := PE.imp (pe_or ha hb) fun σ H Q ⟨F, A, ρ, m, w, g⟩ =>
  ⟨F, A, ρ, m, w, (Got.bind (R1 := rS K) g).mono fun x H1 ⟨F1, A1, m1, s, n1, w1, rx, q⟩ => by
    unfold gOrV at q
    split at q
    · cases rx
      exact ⟨true, rfl, by rw [if_pos rfl]; exact q.now w1 (.bl true)⟩
    · cases rx
      exact ⟨false, rfl, by rw [if_neg Bool.false_ne_true]; exact ⟨F1, A1, ρ, m1, w1, q⟩⟩
    · exact none_got q⟩
theorem pe_vone {op} (ha : PE X a (LE K W fa)) : PE X (.BoolOp op [a] pos) (LE K W fa) := pe_one ha
def gNotV (x : Sl) (m : List MO) : M Sl := match x with
  | .val (.bl c) => rM (.val (.bl (!c))) m
  | _ => none
def vNotV (fa : VE) : VE := fun s => bM (fa s) gNotV
theorem pe_vnotV (ha : PE X a (LE K W fa)) : PE X (.UnaryOp .Not a pos) (LE K W (vNotV fa)) := PE.imp (pe_not ha) fun σ H Q ⟨F, A, ρ, m, w, g⟩ =>
  ⟨F, A, ρ, m, w, (Got.bind (R1 := rS K) g).mono fun x H1 ⟨F1, A1, m1, s, n1, w1, rx, q⟩ => by
    unfold gNotV at q
    split at q
    · cases rx
      exact ⟨_, rfl, q.now w1 (.bl _)⟩
    · exact none_got q⟩
/-! ### isinstance -/
inductive Ty where
  | non | bl | int | str | lst | tup
  | cls (C : Addr)
def tyV : Ty → Value
  | .non => .type "NoneType"
  | .bl => .type "bool"
  | .int => .type "int"
  | .str => .type "str"
  | .lst => .type "list"
  | .tup => .type "tuple"
  | .cls C => .ref C
def tyS (s : Sl) (m : List MO) : Option Ty := match s with
  | .val .non => some .non
  | .val (.bl _) => some .bl
  | .val (.int _) => some .int
  | .val (.str _) => some .str
  | .val (.lst _) => some .lst
  | .val (.seq _) => some .lst
  | .val (.tup _) => some .tup
  | .val (.ins C _) => some (.cls C)
  | .own i => match m[i]? with
    | some (.lst _) => some .lst
    | some (.ins C _) => some (.cls C)
    | _ => none
  | _ => none
/-- instances of C may be asked for their class -/
def InsTy (K : PySem.W.Frag) (C : Addr) : Prop := ∀ (H : Hp) (a dx : Addr) (fs : List (Str × V)), H a = some (.ins C dx fs) → TyX K H (.ref a) (.ref C)
/-- what is asked: the classes us; the answers tab -/
structure IsT (K : PySem.W.Frag) (us : List Value) (tab : Ty → Option Bool) : Prop where
  ans : ∀ y b, tab y = some b → PySem.W.kitAny K (tyV y) us = some b
  ins : ∀ C b, tab (.cls C) = some b → InsTy K C
theorem sqt_ty {H : Hp} {a : Addr} {xs : List V} (h : SqT K H a xs) : TyX K H (.ref a) (.type "tuple") := by
  rcases h with (h | ⟨o, h⟩) | ⟨its, h⟩
  · exact .base (.tup h)
  · exact .fTuple h
  · obtain ⟨_, o, e, c, _⟩ := h
    exact .kTuple e c
theorem sql_ty {H : Hp} {a : Addr} {xs : List V} (h : SqL K H a xs) : TyX K H (.ref a) (.type "list") := by
  rcases h with (h | ⟨o, h⟩) | ⟨its, h⟩
  · exact .base (.lst h)
  · exact .base (.frz h)
  · obtain ⟨_, o, e, c, _⟩ := h
    exact .kList e c
theorem tyS_at {F : Hp} {A : List Addr} {m : List MO} {H : Hp} {s : Sl} {x : V} {y : Ty} (o : Objs K F A m H) (r : RpS K F A x s) (e : tyS s m = some y) (hi : ∀ C, y = .cls C → InsTy K C) : TyX K H x (tyV y) := by
  unfold tyS at e
  split at e
  · cases e; cases r; exact .base .non
  · cases e; cases r; exact .base (.bl _)
  · cases e; cases r; exact .base (.int _)
  · cases e; cases r; exact .base (.str _)
  · cases e
    cases r with
    | lst h q => exact .base (.lst (o.sub _ _ h))
  · cases e
    cases r with
    | seq h q => exact sql_ty (o.sub.seq h)
  · cases e
    cases r with
    | tup h q => exact sqt_ty (sqT_same o.sub h)
  · cases e
    cases r with
    | ins h q => exact hi _ rfl _ _ _ _ (o.sub _ _ h)
  · split at e
    · rename_i i _ _ em
      cases e
      obtain ⟨a, ea, rfl⟩ := r
      obtain ⟨_, xs, h1, h2⟩ := o.obj i a _ ea em
      exact .base (.lst h1)
    · rename_i i _ C _ em
      cases e
      obtain ⟨a, ea, rfl⟩ := r
      obtain ⟨_, dx, vs, h1, h2⟩ := o.obj i a _ ea em
      exact hi _ rfl _ _ _ _ h1
    · cases e
  · cases e
def gIsi (tab : Ty → Option Bool) (s : Sl) (m : List MO) : M Sl := match tyS s m with
  | some y => match tab y with
    | some b => rM (.val (.bl b)) m
    | none => none
  | none => none
def vIsi (tab : Ty → Option Bool) (f : VE) : VE := fun s => bM (f s) (gIsi tab)
theorem isi_go {us : List Value} {tab : Ty → Option Bool} {F : Hp} {A : List Addr} {ρ : List (Option Sl)} {m : List MO} {σ : L2.St} {H : Hp} {x : V} {s : Sl} {Q : VK} (hT : IsT K us tab) (w : Wd K F A ρ m σ H) (rx : RpS K F A x s) (g : Got K W σ ρ F A H (rS K) (gIsi tab s m) Q) :
    ∃ t b, TyX K H x t ∧ PySem.W.kitAny K t us = some b ∧ Got K W σ ρ F A H (rS K) (rM (.val (.bl b)) m) Q := by
  unfold gIsi at g
  split at g
  · rename_i y ey
    split at g
    · rename_i b eb
      exact ⟨tyV y, b, tyS_at w.os rx ey (fun C e => hT.ins C b (by rw [← e]; exact eb)), hT.ans y b eb, g⟩
    · exact none_got g
  · exact none_got g
/-- isinstance(x, c), c a class by its name -/
theorem pe_visi {c : Str} {p p2 pos : Pos} {e : Expr} {f : VE} {v : V} {u : Value} (tab : Ty → Option Bool) (hT : IsT X.K [u] tab) (hg : Gl X "isinstance") (hm : X.mg "isinstance" = none) (he : PE X e (LE X.K W f)) (hc : PE X (.Name c p2) (tC v)) (k : ClsV v u)
    (hs1 : starEach [e, .Name c p2] X.env = (false, eval e X.env) :: starEach [.Name c p2] X.env := by rfl) (hpl : (backTo pos (starEach [.Name c p2] X.env)).any (·.1) = false := by rfl) (hs2 : starEach [.Name c p2] X.env = (false, eval (.Name c p2) X.env) :: starEach [] X.env := by rfl) :
    PE X (.Call (.Name "isinstance" p) [e, .Name c p2] [] pos) (LE X.K W (vIsi tab f)) := PE.imp (pe_callB call_isi hg hm (by decide +kernel) (pa_cons he (pa_cons hc pa_nil hs2) hs1) (by decide) (by decide) hs1 hpl) fun σ H Q ⟨F, A, ρ, m, w, g⟩ =>
  ⟨F, A, ρ, m, w, (Got.bind (R1 := rS X.K) g).mono fun x H1 ⟨F1, A1, m1, s, n1, w1, rx, q⟩ => by
    obtain ⟨t, b, h1, h2, h3⟩ := isi_go hT w1 rx q
    refine ⟨x, v, t, u, b, rfl, k, h1, ?_, h3.now w1 (.bl b)⟩
    unfold PySem.W.kitAny at h2
    split at h2
    · rename_i e1; rw [← h2]; exact e1
    · rename_i e1; rw [e1, ← h2]; rfl
    · cases h2⟩
end
end Vs
end
section
/-! Vs18: own errors with one field, raised. -/
namespace Vs
open PySem PySem.Spec PyProof.Rows L2
variable [WW]
/-- what an error's __init__ does: its argument becomes the field fld -/
def spE1 (K : PySem.W.Frag) (C : Addr) (fld : Str) : Sp := fun vs H Q _ => ∃ (a : Addr) (v : V), vs = [.ref a, v] ∧ OexC K C ∧ PySem.W.findIn K (.ref C) fld = some none ∧ H a = some (exo a C none) ∧
  ∀ dx, H dx = none → dx ≠ a → Q .non (upd (upd H dx (exd dx [(fld, v)])) a (exo a C (some dx)))
/-- an own error, as it is made -/
structure EV (P : Program) (w : World) (K : PySem.W.Frag) (mg : Str → Option Value) (base : Heap) (x fld : Str) (C : Addr) where
  fI : Addr
  fd : FuncData
  ps : List Str
  ox : OexC K C
  iC : PySem.W.findIn K (.ref C) "__init__" = some (some (.ref fI))
  tI : PySem.W.typeIn K (.ref fI) = some (.type "function")
  g : FnOk P w K mg base (fun _ _ _ _ _ _ => False) 1 fI fd ps (spE1 K C fld)
  b : Binds K fd ps []
  m : mg x = some (.ref C)
  no : PySem.W.findIn K (.ref C) fld = some none
section
variable {P : Program} {w : World} {K : PySem.W.Frag} {mg : Str → Option Value} {base : Heap}
end
section
variable {K : PySem.W.Frag} {W : WX} {X : Cx}
def gRaise (C : Addr) (fld : Str) (ρ : List (Option Sl)) (a : Sl) (m : List MO) : R := match a with
  | .val t => some (.ex C [(fld, t)], ⟨ρ, m⟩)
  | _ => none
def vRaise (C : Addr) (fld : Str) (f : VE) : VS := fun s => bS s.ρ (f s) (gRaise C fld s.ρ)
theorem heap_raise {H : Hp} {a dx : Addr} {o1 o2 o3 u : HO} (na : H a = none) (nd : H dx = none) (ne : dx ≠ a) : upd (del (upd (upd (upd H a o1) dx o2) a o3) a) dx u = upd H dx u := by
  funext b
  by_cases h : b = dx
  · subst h; rw [upd_same, upd_same]
  · rw [upd_ne h, upd_ne h]
    by_cases h2 : b = a
    · subst h2; rw [del_same, na]
    · rw [del_ne h2, upd_ne h2, upd_ne h, upd_ne h2]
theorem ps_vraise {x fld : Str} {C : Addr} {e : Expr} {f : VE} {p p2 pos : Pos} (Er : EV X.prog X.w X.K X.mg X.base x fld C) (hc : X.calm = true) (tk : Takes X W) (hr : Room 2 X.A) (hg : Gl X x) (he : PE X e (LE X.K W f)) (hdb : (x == ("__debug__" : Str)) = false := by decide)
    (hs : starEach (e :: []) X.env = (false, eval e X.env) :: starEach [] X.env := by rfl) (hpl : (backTo p2 (starEach [] X.env)).any (·.1) = false := by rfl) :
    PS X (.Raise (some (.Call (.Name x p) [e] [] p2)) none pos) (LS X.K W (vRaise C fld f)) := PS.imp (ps_raise hc tk (pmk_oex Er.ox Er.iC Er.tI Er.g hr Er.b .nil (fun _ _ _ _ _ _ _ h => h.elim) hg Er.m (pa_cons he pa_nil hs) hdb hs hpl)) fun D σ H ⟨F, A, ρ, m, w, r⟩ =>
  ⟨F, A, ρ, m, w, (Ran.bS (rS X.K) r).mono fun v H1 ⟨F1, A1, m1, s, n1, w1, rv, q⟩ => by
    unfold gRaise at q
    split at q
    · rename_i t
      obtain ⟨_, _, z, q⟩ := q
      cases z
      refine ⟨by show 1 ≤ 1000; decide, fun a na => ⟨a, v, rfl, Er.ox, Er.no, upd_same, fun dx ndx ne => ⟨rfl, dx, [(fld, v)], upd_same, by rw [upd_ne ne, upd_same], ?_, ?_⟩⟩⟩
      · rw [upd_ne ne] at ndx; exact ndx
      · have nd1 : H1 dx = none := by rw [upd_ne ne] at ndx; exact ndx
        rw [heap_raise na nd1 ne]
        exact q F1 A1 σ dx _ _ ⟨Same.refl _, List.prefix_refl _, fun _ _ e => .inl e, fun _ h => .inl h, fun b o e _ => by rw [upd_ne (ne_of_none e nd1)]; exact e⟩ (w1.of (Same.refl _) (List.prefix_refl _) (w1.os.keep nd1)) (.cons rv .nil) upd_same
    · exact none_ran q⟩
end
end Vs
end
section
/-! Vs19: str(own), ==, != of own instances. -/
namespace Vs
open PySem PySem.Spec PyProof.Rows L2
variable [WW]
section
variable {K : PySem.W.Frag} {W : WX} {X : Cx}
/-- the def's answer, where it is a text; where it is a bool -/
def strOf (r : M Sl) : M Sl := match r with
  | some (.ok (.val (.str y)), m) => rM (.val (.str y)) m
  | _ => none
def blOf (f : Bool → Bool) (r : M Sl) : M Sl := match r with
  | some (.ok (.val (.bl y)), m) => rM (.val (.bl (f y))) m
  | _ => none
theorem got_str {σ : L2.St} {ρ : List (Option Sl)} {F : Hp} {A : List Addr} {H : Hp} {r : M Sl} {Q : VK} (g : Got K W σ ρ F A H (rS K) (strOf r) Q) : Got K W0 σ ρ F A H (rS K) r fun z H' => ∃ y, z = .str y ∧ Q z H' := by
  unfold strOf at g
  split at g
  · exact ⟨_, _, rfl, fun F' A' b H' n w' rr => by cases rr; exact ⟨_, rfl, g.fin n w' (.str _)⟩⟩
  · exact none_got g
theorem got_bl {f : Bool → Bool} {σ : L2.St} {ρ : List (Option Sl)} {F : Hp} {A : List Addr} {H : Hp} {r : M Sl} {Q : VK} (g : Got K W σ ρ F A H (rS K) (blOf f r) Q) : Got K W0 σ ρ F A H (rS K) r fun z H' => ∃ y, z = .bl y ∧ Q (.bl (f y)) H' := by
  unfold blOf at g
  split at g
  · exact ⟨_, _, rfl, fun F' A' b H' n w' rr => by cases rr; exact ⟨_, rfl, g.fin n w' (.bl _)⟩⟩
  · exact none_got g
abbrev spR (K : PySem.W.Frag) (np : Nat) (vf : VF) : Sp := fun vs H Q E => SpV K np vf (vs ++ []) H Q E
def gStrO (ok : Addr → Bool) (vf : VF) : List Sl → List MO → M Sl
  | [s], m => match insOf s m with
    | some (C, _) => if ok C = true then strOf (callM vf [s] m) else none
    | none => none
  | _, _ => none
theorem cv_strO {gs : Addr} {ok : Addr → Bool} {vf : VF} (hok : ∀ C, ok C = true → ∃ ge, Own.OwnC K C gs ge) : CallV K (Own.rStrOwn K gs (spR K 1 vf) E0) (gStrO ok vf) := by
  intro W F A ρ m σ H xs ss Q w rs g
  unfold gStrO at g
  split at g
  · rename_i s
    split at g
    · rename_i C ns e
      split at g
      · rename_i hc
        obtain ⟨x, rfl, rx⟩ := rpSs1 rs
        obtain ⟨a, dx, vs, rfl, ea, _⟩ := insOf_at w.os rx e
        obtain ⟨ge, oc⟩ := hok C hc
        exact ⟨a, C, dx, vs, ge, rfl, ea, oc, call_got (W := W0) rfl w (.cons rx .nil) (got_str g)⟩
      · exact none_got g
    · exact none_got g
  · exact none_got g
/-- ==, != : the left one is asked -/
def EqOk (K : PySem.W.Frag) (ge : Addr) (ok : Addr → Ty → Bool) : Prop := ∀ C y, ok C y = true → (∃ gs, Own.OwnC K C gs ge) ∧ PySem.W.notFirst K C (tyV y) = true ∧ ∀ D, y = .cls D → InsTy K D
def gEqO (ok : Addr → Ty → Bool) (vf : VF) (f : Bool → Bool) (a b : Sl) (m : List MO) : M Sl := match insOf a m, tyS b m with
  | some (C, _), some y => if ok C y = true then blOf f (callM vf [a, b] m) else none
  | _, _ => none
theorem ov_eqO {ge : Addr} {ok : Addr → Ty → Bool} {vf : VF} {f : Bool → Bool} (hok : EqOk K ge ok) : OpV K (Own.rEqOwn K ge (spR K 2 vf) E0 f) (gEqO ok vf f) := by
  intro W F A ρ m σ H x y a b Q w ra rb g
  unfold gEqO at g
  split at g
  · rename_i C ns t e1 e2
    split at g
    · rename_i hc
      obtain ⟨ad, dx, vs, rfl, ea, _⟩ := insOf_at w.os ra e1
      obtain ⟨⟨gs, oc⟩, hn, hi⟩ := hok C t hc
      exact ⟨ad, C, dx, vs, gs, tyV t, rfl, ea, oc, tyS_at w.os rb e2 hi, hn, call_got (W := W0) rfl w (.cons ra (.cons rb .nil)) (got_bl g)⟩
    · exact none_got g
  · exact none_got g
section
variable {n : Nat} {gs ge : Addr} {fd : FuncData} {ps : List Str} {vf : VF} {a b : Expr} {fa fb : VE} {pos : Pos}
theorem pe_vstrO {f : VA} {e : Expr} {es : List Expr} {x : Str} {p : Pos} {ok : Addr → Bool} (F : FnOk X.prog X.w X.K X.mg X.base (L2.CX X.prog X.w) n gs fd ps (SpV X.K 1 vf)) (hb : Binds X.K fd ps []) (hok : ∀ C, ok C = true → ∃ ge, Own.OwnC X.K C gs ge) (hr : Room (n + 2) X.A) (hg : Gl X x) (hm : X.mg x = none) (hv : bootBuiltins x = some (.type "str")) (ha : PA X (e :: es) (LA X.K W f)) (hn : x ≠ "__name__" := by decide) (hdb : (x == ("__debug__" : Str)) = false := by decide)
    (he : starEach (e :: es) X.env = (false, eval e X.env) :: starEach es X.env := by rfl) (hpl : (backTo pos (starEach es X.env)).any (·.1) = false := by rfl) : PE X (.Call (.Name x p) (e :: es) [] pos) (LE X.K W (vB (gStrO ok vf) f)) :=
  pe_vcallTy (cv_strO hok) (Own.call_strOwn (F.raw hb .nil) hr passL) hg hm hv ha hn hdb he hpl
theorem pt_veqO {ok : Addr → Ty → Bool} (F : FnOk X.prog X.w X.K X.mg X.base (L2.CX X.prog X.w) n ge fd ps (SpV X.K 2 vf)) (hb : Binds X.K fd ps []) (hok : EqOk X.K ge ok) (hr : Room n X.A) (ha : PE X a (LE X.K W fa)) (hb' : PE X b (LE X.K W fb)) : PT X (.Compare a [.Eq] [b] pos) (LT X.K W (vTest (vBin (gEqO ok vf id) fa fb))) :=
  pt_vcmp (Own.op_eqOwn (F.raw hb .nil) hr passL) (ov_eqO hok) ha hb' (nobehind _ (by decide) (by decide))
theorem pt_vneO {ok : Addr → Ty → Bool} (F : FnOk X.prog X.w X.K X.mg X.base (L2.CX X.prog X.w) n ge fd ps (SpV X.K 2 vf)) (hb : Binds X.K fd ps []) (hok : EqOk X.K ge ok) (hr : Room (n + 1) X.A) (ha : PE X a (LE X.K W fa)) (hb' : PE X b (LE X.K W fb)) : PT X (.Compare a [.NotEq] [b] pos) (LT X.K W (vTest (vBin (gEqO ok vf not) fa fb))) :=
  pt_vcmp (Own.op_neOwn (F.raw hb .nil) hr passL) (ov_eqO hok) ha hb' (nobehind _ (by decide) (by decide))
theorem pe_veqO {ok : Addr → Ty → Bool} (F : FnOk X.prog X.w X.K X.mg X.base (L2.CX X.prog X.w) n ge fd ps (SpV X.K 2 vf)) (hb : Binds X.K fd ps []) (hok : EqOk X.K ge ok) (hr : Room n X.A) (ha : PE X a (LE X.K W fa)) (hb' : PE X b (LE X.K W fb)) : PE X (.Compare a [.Eq] [b] pos) (LE X.K W (vBin (gEqO ok vf id) fa fb)) :=
  pe_vcmp (Own.op_eqOwn (F.raw hb .nil) hr passL) (ov_eqO hok) ha hb' (nobehind _ (by decide) (by decide))
theorem pe_vneO {ok : Addr → Ty → Bool} (F : FnOk X.prog X.w X.K X.mg X.base (L2.CX X.prog X.w) n ge fd ps (SpV X.K 2 vf)) (hb : Binds X.K fd ps []) (hok : EqOk X.K ge ok) (hr : Room (n + 1) X.A) (ha : PE X a (LE X.K W fa)) (hb' : PE X b (LE X.K W fb)) : PE X (.Compare a [.NotEq] [b] pos) (LE X.K W (vBin (gEqO ok vf not) fa fb)) :=
  pe_vcmp (Own.op_neOwn (F.raw hb .nil) hr passL) (ov_eqO hok) ha hb' (nobehind _ (by decide) (by decide))
end
end
end Vs
end
section
/-! Vs20: comprehensions of two clauses. -/
namespace Vs
open PySem PySem.Spec PyProof.Rows L2
variable [WW]
section
variable {K : PySem.W.Frag} {W : WX} {X : Cx}
def vCollK (g : VG) (tt : VT) (te : VE) (ρ : List (Option Sl)) : List T → List MO → List T → (List MO → List T → M (List T)) → M (List T)
  | [], m, acc, k => k m acc
  | t :: r, m, acc, k => match g t ρ with
    | none => none
    | some ρ1 => match tt ⟨ρ1, m⟩ with
      | some (.ok true, m1) => match te ⟨ρ1, m1⟩ with
        | some (.ok (.val u), m2) => if acc.length < SZ then vCollK g tt te ρ r m2 (acc ++ [u]) k else none
        | _ => none
      | some (.ok false, m1) => vCollK g tt te ρ r m1 acc k
      | _ => none
def vColl2 (g : VG) (tt : VT) (it1 : VI) (g1 : VG) (tt1 : VT) (te : VE) (vs1 : List Nat) (ρ : List (Option Sl)) : List T → List MO → List T → M (List T)
  | [], m, acc => rM acc m
  | t :: r, m, acc => match g t ρ with
    | none => none
    | some ρ1 => match tt ⟨ρ1, m⟩ with
      | some (.ok true, m1) => match it1 ⟨ρ1, m1⟩ with
        | some (.ok us, m2) => vCollK g1 tt1 te (wipeS ρ1 vs1) us m2 acc fun m3 acc3 => vColl2 g tt it1 g1 tt1 te vs1 ρ r m3 acc3
        | _ => none
      | some (.ok false, m1) => vColl2 g tt it1 g1 tt1 te vs1 ρ r m1 acc
      | _ => none
def vComp2 (vs vs1 : List Nat) (it : VI) (g : VG) (tt : VT) (it1 : VI) (g1 : VG) (tt1 : VT) (te : VE) : VN := fun s => bM (it s) fun ts m => vColl2 g tt it1 g1 tt1 te vs1 (wipeS s.ρ vs) ts m []
theorem offD {Fa Fb : Hp} {Aa Ab : List Addr} {Ha Hb : Hp} {D : Addr} {xs : List V} (n : Nxt Fa Aa Ha Fb Ab Hb) (f : Fa D = none) (a : D ∉ Aa) (h : Ha D = some (.lst xs)) : Fb D = none ∧ D ∉ Ab ∧ Hb D = some (.lst xs) := by
  refine ⟨?_, fun z => ?_, n.keep D _ h a⟩
  · cases q : Fb D with
    | none => rfl
    | some u =>
      rcases n.fresh D u q with y | y | y
      · rw [f] at y; cases y
      · rw [h] at y; cases y
      · exact absurd y a
  · rcases n.news D z with y | y
    · exact a y
    · rw [h] at y; cases y
/-- the state of a comprehension in the making -/
def Mid (K : PySem.W.Frag) (σ : L2.St) (ρ : List (Option Sl)) (F : Hp) (A : List Addr) (H : Hp) (F1 : Hp) (A1 : List Addr) (H1 : Hp) (D : Addr) (Φ : Hp → List Addr → List MO → List T → Prop) (G : Hp) : Prop :=
  ∃ F' A' m' acc xs, Nxt F A H F' A' G ∧ Nxt F1 A1 H1 F' A' G ∧ F' D = none ∧ D ∉ A' ∧ Wd K F' A' ρ m' σ G ∧ G D = some (.lst xs) ∧ RpL K F' xs acc ∧ acc.length ≤ SZ ∧ Φ F' A' m' acc
theorem le_comp2 {vs vs1 L L1 : List Nat} (hL : ∀ i ∈ L, i ∈ vs) (hL1 : ∀ i ∈ L1, i ∈ vs1) {it it1 : VI} {g g1 : VG} {tt tt1 : VT} {te : VE} {σ : L2.St} {H : Hp} {Q : VK} (h : LN K W (vComp2 vs vs1 it g tt it1 g1 tt1 te) σ H Q) :
    tLc2 (LI K W it) (LG K L g) (LT K W0 tt) (LI K W0 it1) (LG K L1 g1) (LT K W0 tt1) (LE K W0 te) vs vs1 σ H Q := by
  obtain ⟨F, A, ρ, m, w, got⟩ := h
  refine ⟨F, A, ρ, m, w, ?_⟩
  unfold vComp2 at got
  match e : it ⟨ρ, m⟩, got with
  | none, got => exact none_got (show Got K W σ ρ F A H _ none Q from got)
  | some (.ex C fs, m1), got =>
    obtain ⟨_, _, z, got⟩ := got
    cases z
    exact ⟨_, _, rfl, got⟩
  | some (.ok ts, m1), got =>
  have got : Got K W σ ρ F A H (relN K H) (vColl2 g tt it1 g1 tt1 te vs1 (wipeS ρ vs) ts m1 []) Q := got
  refine ⟨_, _, rfl, fun F1 A1 J H1 n1 w1 wk D hD => ?_⟩
  have hD0 : H D = none := n1.back w1.os hD
  refine ⟨fun i k G => Mid K σ ρ F A H F1 A1 H1 D (fun _ _ m' acc => i ≤ ts.length ∧ k = ts.length - i ∧ Got K W σ ρ F A H (relN K H) (vColl2 g tt it1 g1 tt1 te vs1 (wipeS ρ vs) (ts.drop i) m' acc) Q) G,
    ⟨ts.length, F1, A1, m1, [], [], n1.offD hD0, Nxt.offD Nxt.refl hD, w1.os.fnone hD, w1.os.notin hD, w1.of (Same.refl _) (List.prefix_refl _) (w1.os.keep hD), upd_same, .nil, Nat.zero_le _, Nat.zero_le _, rfl, got⟩, ?_⟩
  rintro i k G ⟨F', A', m', acc, xs, n', n1', fD, nD, w', eD, racc, hacc, hi, rfl, q'⟩
  have wk' := wk F' A' G m' n1'.sub w'.os i
  by_cases e : i < ts.length
  · have et : ts[i]? = some ts[i] := List.getElem?_eq_getElem e
    have ed : ts.drop i = ts[i] :: ts.drop (i + 1) := List.drop_eq_getElem_cons e
    obtain ⟨go, yl⟩ := wk'.1 _ et
    refine .inr ⟨go, Mid K σ ρ F A H F1 A1 H1 D fun _ _ m' acc => Got K W σ ρ F A H (relN K H) (vColl2 g tt it1 g1 tt1 te vs1 (wipeS ρ vs) (ts.drop (i + 1)) m' acc) Q,
      fun G2 ⟨F2, A2, m2, acc2, xs2, z1, z2, z3, z4, z5, z6, z7, z8, z9⟩ => ⟨ts.length - (i + 1), by omega, F2, A2, m2, acc2, xs2, z1, z2, z3, z4, z5, z6, z7, z8, e, rfl, z9⟩, fun x G3 y => ?_⟩
    obtain ⟨F3, n3, o3, rx⟩ := yl x G3 y
    rw [ed] at q'
    unfold vColl2 at q'
    have w3 : Wd K F3 A' ρ m' σ G3 := w'.of n3.sub (List.prefix_refl _) o3
    obtain ⟨fD3, nD3, eD3⟩ := offD n3 fD nD eD
    match eg : g ts[i] (wipeS ρ vs), q' with
    | none, q' => simp only [eg] at q'; exact none_got q'
    | some ρ1, q' =>
      simp only [eg] at q'
      refine ⟨F3, A', _, m', _, ρ1, wd_wipe w3 vs, rx, eg, fun σ2 w4 sam => ⟨wipe_sam hL sam, F3, A', ρ1, m', w4, ?_⟩⟩
      match eb : tt ⟨ρ1, m'⟩, q' with
      | none, q' => simp only [eb] at q'; exact none_got q'
      | some (.ex C fs, m2), q' => simp only [eb] at q'; exact none_got q'
      | some (.ok false, m2), q' =>
        simp only [eb] at q'
        refine ⟨_, _, rfl, fun F4 A4 b H4 n4 w5 rb => ?_⟩
        cases rb
        obtain ⟨fD4, nD4, eD4⟩ := offD n4 fD3 nD3 eD3
        rw [if_neg Bool.false_ne_true]
        have n34 := n3.trans n4
        exact ⟨F4, A4, m2, acc, xs, n'.trans n34, n1'.trans n34, fD4, nD4, w'.of n34.sub n34.pre w5.os, eD4, racc.same n34.sub, hacc, q'⟩
      | some (.ok true, m2), q' =>
        simp only [eb] at q'
        refine ⟨_, _, rfl, fun F4 A4 b H4 n4 w5 rb => ?_⟩
        cases rb
        obtain ⟨fD4, nD4, eD4⟩ := offD n4 fD3 nD3 eD3
        rw [if_pos rfl]
        refine ⟨F4, A4, ρ1, m2, w5, ?_⟩
        match ei1 : it1 ⟨ρ1, m2⟩, q' with
        | none, q' => simp only [ei1] at q'; exact none_got q'
        | some (.ex C fs, m3), q' => simp only [ei1] at q'; exact none_got q'
        | some (.ok us, m3), q' =>
          simp only [ei1] at q'
          refine ⟨_, _, rfl, fun Fb Ab J1 Hb nb wb wk1 => ?_⟩
          obtain ⟨fDb, nDb, eDb⟩ := offD nb fD4 nD4 eD4
          have n3b := (n3.trans n4).trans nb
          refine ⟨fun j k G => Mid K σ ρ F A H F1 A1 H1 D (fun F' A' m' acc => Same Fb F' ∧ Wd K F' A' ρ1 m' σ2 G ∧ j ≤ us.length ∧ k = us.length - j ∧ Got K W σ ρ F A H (relN K H) (vCollK g1 tt1 te (wipeS ρ1 vs1) (us.drop j) m' acc fun m3 acc3 => vColl2 g tt it1 g1 tt1 te vs1 (wipeS ρ vs) (ts.drop (i + 1)) m3 acc3) Q) G,
            ⟨us.length, Fb, Ab, m3, acc, xs, n'.trans n3b, n1'.trans n3b, fDb, nDb, w'.of n3b.sub n3b.pre wb.os, eDb, racc.same n3b.sub, hacc, Same.refl _, wb, Nat.zero_le _, rfl, q'⟩, ?_⟩
          rintro j k G5 ⟨F5, A5, m5, acc5, xs5, k1, k2, k3, k4, k5, k6, k7, k8, k9, k10, hj, rfl, q5⟩
          have wk5 := wk1 F5 A5 G5 m5 k9 k5.os j
          by_cases e5 : j < us.length
          · have et5 : us[j]? = some us[j] := List.getElem?_eq_getElem e5
            have ed5 : us.drop j = us[j] :: us.drop (j + 1) := List.drop_eq_getElem_cons e5
            obtain ⟨go5, yl5⟩ := wk5.1 _ et5
            refine .inr ⟨go5, fun G => Mid K σ ρ F A H F1 A1 H1 D (fun F' A' m' acc => Same Fb F' ∧ Wd K F' A' ρ1 m' σ2 G ∧ Got K W σ ρ F A H (relN K H) (vCollK g1 tt1 te (wipeS ρ1 vs1) (us.drop (j + 1)) m' acc fun m3 acc3 => vColl2 g tt it1 g1 tt1 te vs1 (wipeS ρ vs) (ts.drop (i + 1)) m3 acc3) Q) G,
              fun G2 ⟨F2, A2, m2, acc2, xs2, z1, z2, z3, z4, z5, z6, z7, z8, z9, z10, z11⟩ => ⟨us.length - (j + 1), by omega, F2, A2, m2, acc2, xs2, z1, z2, z3, z4, z5, z6, z7, z8, z9, z10, e5, rfl, z11⟩, fun x6 G6 y6 => ?_⟩
            obtain ⟨F6, n6, o6, rx6⟩ := yl5 x6 G6 y6
            rw [ed5] at q5
            unfold vCollK at q5
            obtain ⟨fD6, nD6, eD6⟩ := offD n6 k3 k4 k6
            have w6 : Wd K F6 A5 ρ1 m5 σ2 G6 := k10.of n6.sub (List.prefix_refl _) o6
            match eg6 : g1 us[j] (wipeS ρ1 vs1), q5 with
            | none, q5 => simp only [eg6] at q5; exact none_got q5
            | some ρ2, q5 =>
              simp only [eg6] at q5
              refine ⟨F6, A5, _, m5, _, ρ2, wd_wipe w6 vs1, rx6, eg6, fun σ3 w7 sam7 => ⟨wipe_sam hL1 sam7, F6, A5, ρ2, m5, w7, ?_⟩⟩
              match eb7 : tt1 ⟨ρ2, m5⟩, q5 with
              | none, q5 => simp only [eb7] at q5; exact none_got q5
              | some (.ex C fs, m8), q5 => simp only [eb7] at q5; exact none_got q5
              | some (.ok false, m8), q5 =>
                simp only [eb7] at q5
                refine ⟨_, _, rfl, fun F8 A8 b H8 n8 w8 rb => ?_⟩
                cases rb
                obtain ⟨fD8, nD8, eD8⟩ := offD n8 fD6 nD6 eD6
                rw [if_neg Bool.false_ne_true]
                have n68 := n6.trans n8
                exact ⟨F8, A8, m8, acc5, xs5, k1.trans n68, k2.trans n68, fD8, nD8, k5.of n68.sub n68.pre w8.os, eD8, k7.same n68.sub, k8, k9.trans n68.sub, k10.of n68.sub n68.pre w8.os, q5⟩
              | some (.ok true, m8), q5 =>
                simp only [eb7] at q5
                refine ⟨_, _, rfl, fun F8 A8 b H8 n8 w8 rb => ?_⟩
                cases rb
                obtain ⟨fD8, nD8, eD8⟩ := offD n8 fD6 nD6 eD6
                rw [if_pos rfl]
                refine ⟨F8, A8, ρ2, m8, w8, ?_⟩
                match ee : te ⟨ρ2, m8⟩, q5 with
                | none, q5 => simp only [ee] at q5; exact none_got q5
                | some (.ex C fs, m9), q5 => simp only [ee] at q5; exact none_got q5
                | some (.ok (.own p), m9), q5 => simp only [ee] at q5; exact none_got q5
                | some (.ok (.val u), m9), q5 =>
                  simp only [ee] at q5
                  split at q5
                  · rename_i hz
                    refine ⟨_, _, rfl, fun F9 A9 y9 H9 n9 w9 ry => ?_⟩
                    obtain ⟨fD9, nD9, eD9⟩ := offD n9 fD8 nD8 eD8
                    have n69 := (n6.trans n8).trans n9
                    refine ⟨xs5, eD9, by rw [k7.length]; exact sz_lt hz, F9, A9, m9, acc5 ++ [u], xs5 ++ [y9], (k1.trans n69).offD hD0, (k2.trans n69).offD hD, fD9, nD9, k5.of n69.sub n69.pre (w9.os.off fD9 nD9), upd_same, (k7.same n69.sub).append (.cons ry .nil), by rw [List.length_append]; exact hz, k9.trans n69.sub, k10.of n69.sub n69.pre (w9.os.off fD9 nD9), q5⟩
                  · exact none_got q5
          · have ei : j = us.length := by omega
            refine .inl ⟨wk5.2 (by omega), ?_⟩
            rw [List.drop_eq_nil_of_le (by omega)] at q5
            exact ⟨F5, A5, m5, acc5, xs5, k1, k2, k3, k4, k5, k6, k7, k8, q5⟩
  · have ei : i = ts.length := by omega
    refine .inl ⟨wk'.2 (by omega), ?_⟩
    rw [List.drop_eq_nil_of_le (by omega)] at q'
    exact q'.fin n' w' ⟨⟨D, xs, rfl, fD, nD, eD, racc, hacc⟩, fun p ep => by cases ep; exact hD0⟩
theorem pe_vcomp2 {elt tg iter tg1 iter1 : Expr} {ifs ifs1 : List Expr} {scope : Scope} (own : List (Str × Nat)) (vs1 : List Nat) {pos : Pos} {it it1 : VI} {L L1 : List Nat} {g g1 : VG} {tt tt1 : VT} {te : VE} (hL : ∀ i ∈ L, i ∈ own.map (·.2)) (hL1 : ∀ i ∈ L1, i ∈ vs1) (hv : ∀ i ∈ vs1, i ∈ own.map (·.2)) (hc : X.calm = true) (hN : X.N.Nodup) (hi : PI X tg iter (LI X.K W it)) (ok : BlkOk X.N X.env.scope scope own)
    (hg : ∀ (s : Shared) (H : Hp) (C : Addr) (cl : List (Str × Addr)) (fp : List Addr), PG (X.blk s H scope (compEnvC scope cl C X.env) fp) tg (LG X.K L g)) (ht : ∀ (s : Shared) (H : Hp) (C : Addr) (cl : List (Str × Addr)) (fp : List Addr), PTs (X.blk s H scope (compEnvC scope cl C X.env) fp) ifs (LT X.K W0 tt))
    (hi1 : ∀ (s : Shared) (H : Hp) (C : Addr) (cl : List (Str × Addr)) (fp : List Addr), PI (X.blk s H scope (compEnvC scope cl C X.env) fp) tg1 iter1 (LI X.K W0 it1))
    (hg1 : ∀ (s : Shared) (H : Hp) (C : Addr) (cl : List (Str × Addr)) (fp : List Addr), PG (X.blk s H scope (compEnvC scope cl C X.env) fp) tg1 (LG X.K L1 g1)) (ht1 : ∀ (s : Shared) (H : Hp) (C : Addr) (cl : List (Str × Addr)) (fp : List Addr), PTs (X.blk s H scope (compEnvC scope cl C X.env) fp) ifs1 (LT X.K W0 tt1))
    (he : ∀ (s : Shared) (H : Hp) (C : Addr) (cl : List (Str × Addr)) (fp : List Addr), PE (X.blk s H scope (compEnvC scope cl C X.env) fp) elt (LE X.K W0 te)) (hs : ∀ x, foldedSetIterable iter X.env x = pure x := by intro _; rfl) (hs1 : ∀ env x, foldedSetIterable iter1 env x = pure x := by intro _ _; rfl) :
    PE X (.ListComp elt [⟨tg, iter, ifs, 0⟩, ⟨tg1, iter1, ifs1, 0⟩] scope pos) (LN X.K W (vComp2 (own.map (·.2)) vs1 it g tt it1 g1 tt1 te)) := PE.imp (pe_lc2 hc hN hi ok hv hg ht hi1 hg1 ht1 he hs hs1) fun _ _ _ => le_comp2 hL hL1
theorem ps_vsetLc2 {i : Nat} {y : Str} {py : Pos} {elt tg iter tg1 iter1 : Expr} {ifs ifs1 : List Expr} {scope : Scope} (own : List (Str × Nat)) (vs1 : List Nat) {pos spos : Pos} {it it1 : VI} {L L1 : List Nat} {g g1 : VG} {tt tt1 : VT} {te : VE} (hL : ∀ i ∈ L, i ∈ own.map (·.2)) (hL1 : ∀ i ∈ L1, i ∈ vs1) (hv : ∀ i ∈ vs1, i ∈ own.map (·.2)) (hc : X.calm = true) (hN : X.N.Nodup) (hy : X.N[i]? = some y) (hyl : X.env.scope.names.lookup y = some .local)
    (hsw : swapsWith (.ListComp elt [⟨tg, iter, ifs, 0⟩, ⟨tg1, iter1, ifs1, 0⟩] scope pos) (some (.Name y py)) spos.line X.env = pure true) (hi : PI X tg iter (LI X.K W it)) (ok : BlkOk X.N X.env.scope scope own)
    (hg : ∀ (s : Shared) (H : Hp) (C : Addr) (cl : List (Str × Addr)) (fp : List Addr), PG (X.blk s H scope (compEnvC scope cl C X.env) fp) tg (LG X.K L g)) (ht : ∀ (s : Shared) (H : Hp) (C : Addr) (cl : List (Str × Addr)) (fp : List Addr), PTs (X.blk s H scope (compEnvC scope cl C X.env) fp) ifs (LT X.K W0 tt))
    (hi1 : ∀ (s : Shared) (H : Hp) (C : Addr) (cl : List (Str × Addr)) (fp : List Addr), PI (X.blk s H scope (compEnvC scope cl C X.env) fp) tg1 iter1 (LI X.K W0 it1))
    (hg1 : ∀ (s : Shared) (H : Hp) (C : Addr) (cl : List (Str × Addr)) (fp : List Addr), PG (X.blk s H scope (compEnvC scope cl C X.env) fp) tg1 (LG X.K L1 g1)) (ht1 : ∀ (s : Shared) (H : Hp) (C : Addr) (cl : List (Str × Addr)) (fp : List Addr), PTs (X.blk s H scope (compEnvC scope cl C X.env) fp) ifs1 (LT X.K W0 tt1))
    (he : ∀ (s : Shared) (H : Hp) (C : Addr) (cl : List (Str × Addr)) (fp : List Addr), PE (X.blk s H scope (compEnvC scope cl C X.env) fp) elt (LE X.K W0 te)) (hs : ∀ x, foldedSetIterable iter X.env x = pure x := by intro _; rfl) (hs1 : ∀ env x, foldedSetIterable iter1 env x = pure x := by intro _ _; rfl) :
    PS X (.Assign [.Name y py] (.ListComp elt [⟨tg, iter, ifs, 0⟩, ⟨tg1, iter1, ifs1, 0⟩] scope pos) spos) (LS X.K W (vSet i (vVal (vComp2 (own.map (·.2)) vs1 it g tt it1 g1 tt1 te)))) := PS.imp (ps_setLc2 hc hN hy hyl hsw hi ok hv hg ht hi1 hg1 ht1 he hs hs1) fun D σ H h => le_comp2 hL hL1 (le_val (ls_set h))
end
end Vs
end
section
/-! Vs21: tables for isinstance; isinstance with two classes displayed. -/
namespace Vs
open PySem PySem.Spec PyProof.Rows L2
variable [WW]
section
variable {K : PySem.W.Frag} {W : WX} {X : Cx}
/-- the built-in types' answers, and the own classes' -/
def tyTab (base : Ty → Bool) (ct : Addr → Option Bool) : Ty → Option Bool
  | .cls C => ct C
  | y => some (base y)
def noC : Addr → Option Bool := fun _ => none
theorem kitAny1 {t c : Value} {b : Bool} (h : PySem.W.kitOne K t c = some b) : PySem.W.kitAny K t [c] = some b := by
  unfold PySem.W.kitAny
  rw [h]
  cases b <;> rfl
theorem kitAny2 {t c d : Value} {b1 b2 : Bool} (h1 : PySem.W.kitOne K t c = some b1) (h2 : PySem.W.kitOne K t d = some b2) : PySem.W.kitAny K t [c, d] = some (b1 || b2) := by
  unfold PySem.W.kitAny
  rw [h1]
  cases b1
  · exact kitAny1 h2
  · rfl
/-- own classes' answers to one class -/
def CtOk (K : PySem.W.Frag) (u : Value) (ct : Addr → Option Bool) : Prop := ∀ C b, ct C = some b → PySem.W.kitOne K (.ref C) u = some b ∧ InsTy K C
def isIntB : Ty → Bool
  | .int => true
  | .bl => true
  | _ => false
def isBlB : Ty → Bool
  | .bl => true
  | _ => false
def isStrB : Ty → Bool
  | .str => true
  | _ => false
def isLstB : Ty → Bool
  | .lst => true
  | _ => false
def isTupB : Ty → Bool
  | .tup => true
  | _ => false
theorem isT1 {u : Value} {base : Ty → Bool} {ct : Addr → Option Bool} (h : ∀ y, (∀ C, y ≠ .cls C) → PySem.W.kitOne K (tyV y) u = some (base y)) (hc : CtOk K u ct) : IsT K [u] (tyTab base ct) := by
  refine ⟨fun y b e => kitAny1 ?_, fun C b e => (hc C b e).2⟩
  cases y with
  | cls C => exact (hc C b e).1
  | non => cases e; exact h .non (fun _ z => nomatch z)
  | bl => cases e; exact h .bl (fun _ z => nomatch z)
  | int => cases e; exact h .int (fun _ z => nomatch z)
  | str => cases e; exact h .str (fun _ z => nomatch z)
  | lst => cases e; exact h .lst (fun _ z => nomatch z)
  | tup => cases e; exact h .tup (fun _ z => nomatch z)
theorem kInt : ∀ y, (∀ C, y ≠ .cls C) → PySem.W.kitOne K (tyV y) (.type "int") = some (isIntB y)
  | .non, _ => kit_ty (by decide +kernel) | .bl, _ => kit_ty (by decide +kernel) | .int, _ => kit_ty (by decide +kernel) | .str, _ => kit_ty (by decide +kernel) | .lst, _ => kit_ty (by decide +kernel) | .tup, _ => kit_ty (by decide +kernel)
  | .cls C, h => absurd rfl (h C)
theorem kBl : ∀ y, (∀ C, y ≠ .cls C) → PySem.W.kitOne K (tyV y) (.type "bool") = some (isBlB y)
  | .non, _ => kit_ty (by decide +kernel) | .bl, _ => kit_ty (by decide +kernel) | .int, _ => kit_ty (by decide +kernel) | .str, _ => kit_ty (by decide +kernel) | .lst, _ => kit_ty (by decide +kernel) | .tup, _ => kit_ty (by decide +kernel)
  | .cls C, h => absurd rfl (h C)
theorem kStr : ∀ y, (∀ C, y ≠ .cls C) → PySem.W.kitOne K (tyV y) (.type "str") = some (isStrB y)
  | .non, _ => kit_ty (by decide +kernel) | .bl, _ => kit_ty (by decide +kernel) | .int, _ => kit_ty (by decide +kernel) | .str, _ => kit_ty (by decide +kernel) | .lst, _ => kit_ty (by decide +kernel) | .tup, _ => kit_ty (by decide +kernel)
  | .cls C, h => absurd rfl (h C)
theorem kLst : ∀ y, (∀ C, y ≠ .cls C) → PySem.W.kitOne K (tyV y) (.type "list") = some (isLstB y)
  | .non, _ => kit_ty (by decide +kernel) | .bl, _ => kit_ty (by decide +kernel) | .int, _ => kit_ty (by decide +kernel) | .str, _ => kit_ty (by decide +kernel) | .lst, _ => kit_ty (by decide +kernel) | .tup, _ => kit_ty (by decide +kernel)
  | .cls C, h => absurd rfl (h C)
theorem kTup : ∀ y, (∀ C, y ≠ .cls C) → PySem.W.kitOne K (tyV y) (.type "tuple") = some (isTupB y)
  | .non, _ => kit_ty (by decide +kernel) | .bl, _ => kit_ty (by decide +kernel) | .int, _ => kit_ty (by decide +kernel) | .str, _ => kit_ty (by decide +kernel) | .lst, _ => kit_ty (by decide +kernel) | .tup, _ => kit_ty (by decide +kernel)
  | .cls C, h => absurd rfl (h C)
/-- isinstance(x, (c1, c2)) -/
def tab2 (a b : Ty → Option Bool) : Ty → Option Bool := fun y => match a y, b y with
    | some a, some b => some (a || b)
    | _, _ => none
theorem isT2 {u1 u2 : Value} {b1 b2 : Ty → Bool} {c1 c2 : Addr → Option Bool} (h1 : IsT K [u1] (tyTab b1 c1)) (h2 : IsT K [u2] (tyTab b2 c2)) : IsT K [u1, u2] (tab2 (tyTab b1 c1) (tyTab b2 c2)) := by
  have one : ∀ {t u : Value} {b : Bool}, PySem.W.kitAny K t [u] = some b → PySem.W.kitOne K t u = some b := fun {t u b} h => by
    unfold PySem.W.kitAny at h
    split at h
    · rename_i e; rw [e]; exact h
    · rename_i e; rw [e, ← h]; rfl
    · cases h
  refine ⟨fun y b e => ?_, fun C b e => ?_⟩
  · unfold tab2 at e
    split at e
    · rename_i a b' e1 e2
      cases e
      exact kitAny2 (one (h1.ans _ _ e1)) (one (h2.ans _ _ e2))
    · cases e
  · unfold tab2 at e
    split at e
    · rename_i a b' e1 e2
      exact h1.ins C a e1
    · cases e
theorem pe_visi2 {c c' : Str} {p p2 p3 p4 pos : Pos} {k : Nat} {e : Expr} {f : VE} {v v' : V} {u u' : Value} (tab : Ty → Option Bool) (hT : IsT X.K [u, u'] tab) (hg : Gl X "isinstance") (hm : X.mg "isinstance" = none) (he : PE X e (LE X.K W f)) (hc : PE X (.Name c p2) (tC v)) (hc' : PE X (.Name c' p3) (tC v')) (kk : ClsV v u) (kk' : ClsV v' u')
    (hs1 : starEach [e, .Tuple [.Name c p2, .Name c' p3] k p4] X.env = (false, eval e X.env) :: starEach [.Tuple [.Name c p2, .Name c' p3] k p4] X.env := by rfl) (hpl : (backTo pos (starEach [.Tuple [.Name c p2, .Name c' p3] k p4] X.env)).any (·.1) = false := by rfl) (hs2 : starEach [.Tuple [.Name c p2, .Name c' p3] k p4] X.env = (false, eval (.Tuple [.Name c p2, .Name c' p3] k p4) X.env) :: starEach [] X.env := by rfl)
    (hs3 : starEach [.Name c p2, .Name c' p3] X.env = (false, eval (.Name c p2) X.env) :: starEach [.Name c' p3] X.env := by rfl) (hs4 : starEach [.Name c' p3] X.env = (false, eval (.Name c' p3) X.env) :: starEach [] X.env := by rfl) :
    PE X (.Call (.Name "isinstance" p) [e, .Tuple [.Name c p2, .Name c' p3] k p4] [] pos) (LE X.K W (vIsi tab f)) := PE.imp (pe_callB call_isiT hg hm (by decide +kernel) (pa_cons he (pa_cons (pe_tup (pa_cons hc (pa_cons hc' pa_nil hs4) hs3)) pa_nil hs2) hs1) (by decide) (by decide) hs1 hpl) fun σ H Q ⟨F, A, ρ, m, w, g⟩ =>
  ⟨F, A, ρ, m, w, (Got.bind (R1 := rS X.K) g).mono fun x H1 ⟨F1, A1, m1, s, n1, w1, rx, q⟩ => by
    refine ⟨by show 2 ≤ sizeLine; decide, fun tp ntp => ?_⟩
    have w2 : Wd X.K F1 A1 ρ m1 σ (upd H1 tp (.tup [v, v'])) := w1.of (Same.refl _) (List.prefix_refl _) (w1.os.keep ntp)
    have n2 : Nxt F1 A1 H1 F1 A1 (upd H1 tp (.tup [v, v'])) := ⟨Same.refl _, List.prefix_refl _, fun _ _ e => .inl e, fun _ h => .inl h, fun a o e _ => by rw [upd_ne (ne_of_none e ntp)]; exact e⟩
    obtain ⟨t, b, h1, h2, h3⟩ := isi_go hT w2 rx (q.later n2)
    exact ⟨x, tp, [v, v'], t, [u, u'], b, rfl, upd_same, .cons kk (.cons kk' .nil), h1, h2, h3.now w2 (.bl b)⟩⟩
end
end Vs
end
section
/-! Vs22: a < b < c. -/
namespace Vs
open PySem PySem.Spec PyProof.Rows L2
variable [WW]
section
variable {K : PySem.W.Frag} {W : WX} {X : Cx}
def gChain (g1 g2 : Sl → Sl → List MO → M Sl) (fc : VE) (ρ : List (Option Sl)) (x y : Sl) (m : List MO) : M Sl := match g1 x y m with
  | some (.ok (.val (.bl true)), m3) => bM (fc ⟨ρ, m3⟩) fun z m4 => g2 y z m4
  | some (.ok (.val (.bl false)), m3) => rM (.val (.bl false)) m3
  | _ => none
def vChain (g1 g2 : Sl → Sl → List MO → M Sl) (fa fb fc : VE) : VE := fun s => bM (fa s) fun x m1 => bM (fb ⟨s.ρ, m1⟩) fun y m2 => gChain g1 g2 fc s.ρ x y m2
theorem le_chain {r r' : R2} {g1 g2 : Sl → Sl → List MO → M Sl} {fa fb fc : VE} (h1 : OpV K r g1) (h2 : OpV K r' g2) {σ : L2.St} {H : Hp} {Q : VK} (h : LE K W (vChain g1 g2 fa fb fc) σ H Q) : tChain r r' (LE K W fa) (LE K W fb) (LE K W fc) σ H Q := by
  obtain ⟨F, A, ρ, m, w, got⟩ := h
  refine ⟨F, A, ρ, m, w, (Got.bind (R1 := rS K) got).mono fun x H1 ⟨F1, A1, m1, a, n1, w1, ra, q1⟩ => ⟨F1, A1, ρ, m1, w1, (Got.bind (R1 := rS K) q1).mono fun y H2 ⟨F2, A2, m2, b, n2, w2, rb, q2⟩ => ?_⟩⟩
  have ra2 := ra.next n2.sub n2.pre
  unfold gChain at q2
  split at q2
  · rename_i m3 e1
    refine h1 W F2 A2 ρ m2 σ H2 x y a b _ w2 ra2 rb ⟨_, _, e1, fun F3 A3 z H3 n3 w3 rz => ?_⟩
    cases rz
    refine ⟨true, rfl, ?_⟩
    rw [if_pos rfl]
    refine ⟨F3, A3, ρ, m3, w3, (Got.bind (R1 := rS K) (Got.later q2 n3)).mono fun z H4 ⟨F4, A4, m4, c, n4, w4, rc, q4⟩ => ?_⟩
    exact h2 W F4 A4 ρ m4 σ H4 y z b c Q w4 (rb.next (n3.sub.trans n4.sub) (List.IsPrefix.trans n3.pre n4.pre)) rc q4
  · rename_i m3 e1
    refine h1 W F2 A2 ρ m2 σ H2 x y a b _ w2 ra2 rb ⟨_, _, e1, fun F3 A3 z H3 n3 w3 rz => ?_⟩
    cases rz
    refine ⟨false, rfl, ?_⟩
    rw [if_neg Bool.false_ne_true]
    exact q2.fin n3 w3 (.bl false)
  · exact none_got q2
theorem pe_vchain {op op' : CmpOp} {r r' : R2} {g1 g2 : Sl → Sl → List MO → M Sl} {a b c : Expr} {fa fb fc : VE} {pos : Pos} (ho : OpR X (compareOp op) r) (ho' : OpR X (compareOp op') r') (h1 : OpV X.K r g1) (h2 : OpV X.K r' g2) (ha : PE X a (LE X.K W fa)) (hb : PE X b (LE X.K W fb)) (hc : PE X c (LE X.K W fc))
    (hm : lastMarks [op, op'] [b, c] = false := by with_unfolding_all rfl) : PE X (.Compare a [op, op'] [b, c] pos) (LE X.K W (vChain g1 g2 fa fb fc)) := PE.imp (pe_chain ho ho' ha hb hc hm) fun _ _ _ => le_chain h1 h2
theorem pt_vchain {op op' : CmpOp} {r r' : R2} {g1 g2 : Sl → Sl → List MO → M Sl} {a b c : Expr} {fa fb fc : VE} {pos : Pos} (ho : OpR X (compareOp op) r) (ho' : OpR X (compareOp op') r') (h1 : OpV X.K r g1) (h2 : OpV X.K r' g2) (ha : PE X a (LE X.K W fa)) (hb : PE X b (LE X.K W fb)) (hc : PE X c (LE X.K W fc))
    (hm : lastMarks [op, op'] [b, c] = false := by with_unfolding_all rfl) : PT X (.Compare a [op, op'] [b, c] pos) (LT X.K W (vTest (vChain g1 g2 fa fb fc))) := PT.imp (pt_chain ho ho' ha hb hc hm) fun σ H Q h => le_chain h1 h2 (lt_test h)
end
end Vs
namespace Vs
open PySem PySem.Spec PyProof.Rows L2
variable [WW]
/-- a class's method, as it is called, below room k -/
def MVd (P : Program) (w : World) (K : PySem.W.Frag) (mg : Str → Option Value) (base : Heap) (kk : Nat) (m : Str) (np : Nat) (C : Addr) (vf : VF) : Prop := Cls K C ∧ ∃ (k : Nat) (g : Addr) (fd : FuncData) (ps : List Str), k ≤ kk ∧ Meth K C m g ∧ FnOk P w K mg base (L2.CX P w) k g fd ps (SpV K np vf) ∧ Binds K fd ps []
theorem MVd.mv {X : Cx} {kk : Nat} {m : Str} {np : Nat} {C : Addr} {vf : VF} (h : MVd X.prog X.w X.K X.mg X.base kk m np C vf) (hr : Room kk X.A) : MV X m np C vf :=
  let ⟨c, k, g, fd, ps, hk, hm, F, b⟩ := h
  ⟨c, k, g, fd, ps, hm, F, hr.mono hk, b⟩
/-- a method's def, as str and == reach it -/
structure DM (P : Program) (w : World) (K : PySem.W.Frag) (mg : Str → Option Value) (base : Heap) (k np : Nat) (vf : VF) where
  a : Addr
  fd : FuncData
  ps : List Str
  g : FnOk P w K mg base (L2.CX P w) k a fd ps (SpV K np vf)
  b : Binds K fd ps []
/-- a constant of the module -/
structure GV (K : PySem.W.Frag) (mg : Str → Option Value) (x : Str) (t : T) where
  v : V
  u : Value
  m : mg x = some u
  r : RelV v u
  rp : ∀ F, Rp K F v t
end Vs
end
section
/-! Vs23: *e in displays and calls; C() without an own __init__; C(..) by its record. -/
namespace Vs
open PySem PySem.Spec PyProof.Rows L2
variable [WW]
section
variable {K : PySem.W.Frag} {W : WX} {X : Cx}
theorem RpSs.app {F : Hp} {A : List Addr} : ∀ {xs ys : List V} {as bs : List Sl}, RpSs K F A xs as → RpSs K F A ys bs → RpSs K F A (xs ++ ys) (as ++ bs)
  | _, _, _, _, .nil, h => h
  | _, _, _, _, .cons a r, h => .cons a (RpSs.app r h)
theorem RpSs.ofL {F : Hp} {A : List Addr} : ∀ {xs : List V} {ts : List T}, RpL K F xs ts → RpSs K F A xs (ts.map .val)
  | _, _, .nil => .nil
  | _, _, .cons a r => .cons a (RpSs.ofL r)
def vStar (f : VE) (g : VA) : VA := fun s => bM (f s) fun a m1 => match seqOf a m1 with
  | some ts => bM (g ⟨s.ρ, m1⟩) fun ss m2 => rM (ts.map .val ++ ss) m2
  | none => none
theorem pa_vstar {e : Expr} {es : List Expr} {f : VE} {g : VA} {p : Pos} (he : PE X e (LE X.K W f)) (hr : PA X es (LA X.K W g)) (hs : starEach (.Starred e p :: es) X.env = (true, eval e X.env) :: starEach es X.env := by rfl) : PA X (.Starred e p :: es) (LA X.K W (vStar f g)) := PA.imp (StX.pa_star he hr hs) fun σ H Q ⟨F, A, ρ, m, w, got⟩ =>
  ⟨F, A, ρ, m, w, (Got.bind (R1 := rS X.K) got).mono fun x H1 ⟨F1, A1, m1, a, n1, w1, ra, q⟩ => by
    split at q
    · rename_i ts e1
      obtain ⟨p, xs, rfl, h1, h2⟩ := seqOf_at2 w1.os ra e1
      refine ⟨p, xs, rfl, h1.elim .inr fun h => .inl (sqT_same w1.os.sub h), F1, A1, ρ, m1, w1, (Got.bind (R1 := fun F' A' _ vs ss => RpSs X.K F' A' vs ss) q).mono fun ys H2 ⟨F2, A2, m2, ss, n2, w2, rs, q2⟩ => q2.now w2 (RpSs.app (RpSs.ofL (h2.same n2.sub)) rs)⟩
    · exact none_got q⟩
/-- a new instance without fields -/
def vMakeO (C : Addr) : VE := fun s => rM (.own s.m.length) (s.m ++ [.ins C []])
theorem pe_vmakeO {x : Str} {C : Addr} {p pos : Pos} (M : Own.MkO X.K C) (hg : Gl X x) (hm : X.mg x = some (.ref C)) (hdb : (x == ("__debug__" : Str)) = false := by decide) : PE X (.Call (.Name x p) [] [] pos) (LE X.K W (vMakeO C)) := PE.imp (Own.pe_makeO M hg hm hdb) fun σ H Q ⟨F, A, ρ, m, w, got⟩ => fun x dx nx nd ne => by
  have o1 : Objs X.K F A m (upd H dx (.own x)) := w.os.keep nd
  have n0 : Nxt F A H F A (upd H dx (.own x)) := ⟨Same.refl _, List.prefix_refl _, fun _ _ e => .inl e, fun _ h => .inl h, fun a o e _ => by rw [upd_ne (ne_of_none e nd)]; exact e⟩
  have xA : x ∉ A := w.os.notin nx
  have fx : F x = none := w.os.fnone nx
  have o2 : Objs X.K F (A ++ [x]) (m ++ [.ins C []]) (upd (upd H dx (.own x)) x (.ins C dx [])) := (o1.over fx xA).addO xA ⟨_, upd_same⟩ ⟨fx, dx, [], upd_same, .nil⟩
  exact got.fin (n0.addp nx) (w.of (Same.refl _) (List.prefix_append A [x]) o2) ⟨x, by rw [← w.os.len, List.getElem?_append_right (Nat.le_refl _), Nat.sub_self]; rfl, rfl⟩
/-- a class that is made by its __init__ -/
structure MI (P : Program) (w : World) (K : PySem.W.Frag) (mg : Str → Option Value) (base : Heap) (k np : Nat) (x : Str) (C : Addr) (vf : VF) where
  f : Addr
  fd : FuncData
  ps : List Str
  mks : Mk K C f
  g : FnOk P w K mg base (L2.CX P w) k f fd ps (SpV K np vf)
  b : Binds K fd ps []
  m : mg x = some (.ref C)
end
end Vs
end
section
/-! Vs24: f(), C.m(..), C(..) with defaults, cls(..), text.split(sep). -/
namespace Vs
open PySem PySem.Spec PyProof.Rows L2
variable [WW]
section
variable {W : WX} {X : Cx}
/-! ### f() -/
theorem pe_callS0 {k : Nat} {f : Addr} {fd : FuncData} {ps : List Str} {sp : Sp} {E : L2.St → XK} {x : Str} {p pos : Pos} (F : FnOk X.prog X.w X.K X.mg X.base (L2.CX X.prog X.w) k f fd ps sp) (hr : Room k X.A) (hg : Gl X x) (hm : X.mg x = some (.ref f)) (hk : PySem.W.keepIn X.K (.ref f) = true) (hb : Binds X.K fd ps []) (hx : ∀ σ, PassesAt (L2.CX X.prog X.w) X σ (E σ)) (hdb : (x == ("__debug__" : Str)) = false := by decide) :
    PE X (.Call (.Name x p) [] [] pos) (fun σ H Q => sp [] H Q (E σ)) := by
  refine ⟨fun pins s σ H Q I h => ?_⟩
  refine wpAny_Call_Name_kw (ld_glob I hg hm ?_ hdb)
  exact PySem.W.callWith_K0 I.kIn hk (run_fnS (us := []) F hr hb (hx σ) I .nil h)
theorem pe_vcall0 {k : Nat} {f : Addr} {fd : FuncData} {ps : List Str} {vf : VF} {x : Str} {p pos : Pos} (F : FnOk X.prog X.w X.K X.mg X.base (L2.CX X.prog X.w) k f fd ps (SpV X.K 0 vf)) (hr : Room k X.A) (hg : Gl X x) (hm : X.mg x = some (.ref f)) (hk : PySem.W.keepIn X.K (.ref f) = true) (hb : Binds X.K fd ps []) (tk : Takes X W) (hdb : (x == ("__debug__" : Str)) = false := by decide) :
    PE X (.Call (.Name x p) [] [] pos) (LE X.K W (vCall vf vNil)) := PE.imp (pe_callS0 F hr hg hm hk hb (fun σ => passAt tk σ) hdb) fun σ H Q ⟨F, A, ρ, m, w, g⟩ => call_got rfl w .nil g
/-! ### C.m(e, ..), a class method -/
structure CM (P : Program) (w : World) (K : PySem.W.Frag) (mg : Str → Option Value) (base : Heap) (k np : Nat) (m : Str) (C : Addr) (vf : VF) where
  mc : Value
  p : Addr
  a : Addr
  fd : FuncData
  ps : List Str
  rd : ClX.CRead K C mc
  mt : ClX.CMet K C mc m p a
  g : FnOk P w K mg base (L2.CX P w) k a fd ps (SpV K np vf)
  b : Binds K fd ps []
def vCMeth (C : Addr) (vf : VF) (fa : VA) : VE := fun s => bM (fa s) fun ss m => callM vf (.val (.cst (.ref C)) :: ss) m
theorem pe_vcmeth {np k : Nat} {C : Addr} {vf : VF} {fa : VA} {o e : Expr} {es : List Expr} {m : Str} {pos apos : Pos} {pl : Sem Bool} (D : CM X.prog X.w X.K X.mg X.base k np m C vf) (hO : PE X o (tC (.ref C))) (hr : Room k X.A) (tk : Takes X W) (ha : PA X (e :: es) (LA X.K W fa)) (hn : ∀ s ss m, fa s = some (.ok ss, m) → ss.length + 1 = np)
    (h1 : starEach (e :: es) X.env = (false, eval e X.env) :: starEach es X.env := by rfl) (h2 : (backTo pos (starEach es X.env)).any (·.1) = false := by rfl)
    (h3 : eval (.Call (.Attribute o m apos) (e :: es) [] pos) X.env = (do
      let it ← eval o X.env
      standAt apos.atName
      let (fn, ahead) ← holding [it] (getMethod it m pl)
      callWith pos fn ahead (backTo pos (starEach (e :: es) X.env)) (backToKw pos (keywordEach [] X.env))) := by rfl) : PE X (.Call (.Attribute o m apos) (e :: es) [] pos) (LE X.K W (vCMeth C vf fa)) := PE.imp (Own.pe_cmethS hO D.rd D.mt (D.g.raw D.b .nil) hr (fun σ => passAt tk σ) ha h1 h2 h3) fun σ H Q ⟨F, A, ρ, m0, w, g⟩ => by
  refine ⟨rfl, F, A, ρ, m0, w, ?_⟩
  match e2 : fa ⟨ρ, m0⟩, g with
  | none, g => unfold vCMeth at g; rw [e2] at g; exact none_got g
  | some (.ex D' fs, m1), g =>
    unfold vCMeth at g
    rw [e2] at g
    obtain ⟨_, _, z, g⟩ := g
    cases z
    exact ⟨_, _, rfl, g⟩
  | some (.ok ss, m1), g =>
    unfold vCMeth at g
    rw [e2] at g
    have hl := hn _ _ _ e2
    refine ⟨_, _, rfl, fun F1 A1 vs H1 n1 w1 rs => ?_⟩
    show SpV X.K np vf ((V.ref C :: vs) ++ []) H1 Q (WE W σ)
    rw [List.append_nil]
    exact call_got (by rw [List.length_cons, RpSs.length rs]; exact hl) w1 (.cons (show RpS X.K F1 A1 (.ref C) (.val (.cst (.ref C))) from .cst _) rs) (Got.later g n1)
/-! ### C(..), defaults behind the arguments -/
structure MD (P : Program) (w : World) (K : PySem.W.Frag) (mg : Str → Option Value) (base : Heap) (k np : Nat) (C : Addr) (vf : VF) (dts : List T) where
  f : Addr
  fd : FuncData
  ps : List Str
  ds : List Value
  dvs : List V
  mks : Mk K C f
  g : FnOk P w K mg base (L2.CX P w) k f fd ps (SpV K np vf)
  b : Binds K fd ps ds
  hd : Vals dvs ds
  rd : ∀ F, RpL K F dvs dts
def vMakeD (C : Addr) (vf : VF) (dts : List T) (fa : VA) : VE := fun s => bM (fa s) fun ss m1 => bM (callM vf (.own m1.length :: (ss ++ dts.map .val)) (m1 ++ [.ins C []])) fun r m2 => match r with
  | .val .non => rM (.own m1.length) m2
  | _ => none
theorem le_makeD {P : Program} {w0 : World} {K : PySem.W.Frag} {mg : Str → Option Value} {base : Heap} {k np : Nat} {C : Addr} {vf : VF} {dts : List T} (D : MD P w0 K mg base k np C vf dts) {fa : VA} (hn : ∀ s ss m, fa s = some (.ok ss, m) → ss.length + dts.length + 1 = np) {σ : L2.St} {H : Hp} {Q : VK} (h : LE K W (vMakeD C vf dts fa) σ H Q) : Own.tMakeS C (SpV K np vf) D.dvs (WE W) (LA K W fa) σ H Q := by
  obtain ⟨F, A, ρ, m, w, g⟩ := h
  refine ⟨F, A, ρ, m, w, ?_⟩
  match e : fa ⟨ρ, m⟩, g with
  | none, g => unfold vMakeD at g; rw [e] at g; exact none_got g
  | some (.ex D' fs, m1), g =>
    unfold vMakeD at g
    rw [e] at g
    obtain ⟨_, _, z, g⟩ := g
    cases z
    exact ⟨_, _, rfl, g⟩
  | some (.ok ss, m1), g =>
    unfold vMakeD at g
    rw [e] at g
    have hl := hn _ _ _ e
    refine ⟨_, _, rfl, fun F1 A1 vs H1 n1 w1 rs x dx nx nd ne => ?_⟩
    exact make_go (by rw [List.length_append, RpSs.length rs, (D.rd F1).length]; exact hl) w1 (rs.app (RpSs.ofL (D.rd F1))) (Got.later g n1) x dx nx nd ne
theorem pe_vmakeD {np k : Nat} {C : Addr} {vf : VF} {dts : List T} {fa : VA} {x : Str} {e : Expr} {es : List Expr} {p pos : Pos} (D : MD X.prog X.w X.K X.mg X.base k np C vf dts) (hr : Room (k + 1) X.A) (hg : Gl X x) (hm : X.mg x = some (.ref C)) (tk : Takes X W)
    (ha : PA X (e :: es) (LA X.K W fa)) (hn : ∀ s ss m, fa s = some (.ok ss, m) → ss.length + dts.length + 1 = np) (hdb : (x == ("__debug__" : Str)) = false := by decide) (he : starEach (e :: es) X.env = (false, eval e X.env) :: starEach es X.env := by rfl) (hpl : (backTo pos (starEach es X.env)).any (·.1) = false := by rfl) :
    PE X (.Call (.Name x p) (e :: es) [] pos) (LE X.K W (vMakeD C vf dts fa)) := PE.imp (Own.pe_makeS D.mks D.g hr hg hm D.b D.hd (fun σ => passAt tk σ) ha hdb he hpl) fun _ _ _ => le_makeD D hn
theorem go0 {P : Program} {w0 : World} {K : PySem.W.Frag} {mg : Str → Option Value} {base : Heap} {k np : Nat} {C : Addr} {vf : VF} {dts : List T} (D : MD P w0 K mg base k np C vf dts) (hn : dts.length + 1 = np) {σ : L2.St} {H : Hp} {Q : VK} (h : LE K W (vMakeD C vf dts vNil) σ H Q) :
    ∀ x dx, H x = none → H dx = none → dx ≠ x → SpV K np vf (.ref x :: ([] ++ D.dvs)) (upd (upd H dx (.own x)) x (.ins C dx [])) (fun v H2 => v = .non ∧ Q (.ref x) H2) (WE W σ) := by
  obtain ⟨F, A, ρ, m, w, g⟩ := h
  intro x dx nx nd ne
  exact make_go (vs := [] ++ D.dvs) (ss := [] ++ dts.map .val) (by rw [List.nil_append, (D.rd F).length]; exact hn) w (RpSs.app .nil (RpSs.ofL (D.rd F))) g x dx nx nd ne
theorem pe_vmakeD0 {np k : Nat} {C : Addr} {vf : VF} {dts : List T} {x : Str} {p pos : Pos} (D : MD X.prog X.w X.K X.mg X.base k np C vf dts) (hr : Room (k + 1) X.A) (hg : Gl X x) (hm : X.mg x = some (.ref C)) (tk : Takes X W) (hn : dts.length + 1 = np) (hdb : (x == ("__debug__" : Str)) = false := by decide) :
    PE X (.Call (.Name x p) [] [] pos) (LE X.K W (vMakeD C vf dts vNil)) := by
  refine ⟨fun pins s σ H Q I h => ?_⟩
  refine wpAny_Call_Name_kw (ld_glob I hg hm ?_ hdb)
  exact PySem.W.callWith_K0 I.kIn D.mks.kp (Own.run_makeS (us := []) (E := WE W) D.mks D.g hr D.b D.hd (passAt tk σ) I .nil (go0 D hn h))
/-! ### cls(..) -/
def vAtC (i : Nat) (C : Addr) (f : VE) : VE := fun s => match s.ρ[i]? with
  | some (some (.val (.cst (.ref D)))) => if D = C then f s else none
  | _ => none
theorem atC {K : PySem.W.Frag} {i : Nat} {C : Addr} {f : VE} {σ : L2.St} {H : Hp} {Q : VK} (h : LE K W (vAtC i C f) σ H Q) : σ[i]? = some (some (.ref C)) ∧ LE K W f σ H Q := by
  obtain ⟨F, A, ρ, m, w, g⟩ := h
  unfold vAtC at g
  split at g
  · rename_i D e
    split at g
    · rename_i ed
      subst ed
      obtain ⟨v, h1, h2⟩ := w.slot i _ e
      cases h2
      exact ⟨h1, F, A, ρ, m, w, g⟩
    · exact none_got g
  · exact none_got g
theorem pe_vmakeL {np k i : Nat} {C : Addr} {vf : VF} {dts : List T} {fa : VA} {x : Str} {e : Expr} {es : List Expr} {p pos : Pos} (D : MD X.prog X.w X.K X.mg X.base k np C vf dts) (hr : Room (k + 1) X.A) (hN : X.N[i]? = some x) (hv : Vis X.env.scope x) (tk : Takes X W)
    (ha : PA X (e :: es) (LA X.K W fa)) (hn : ∀ s ss m, fa s = some (.ok ss, m) → ss.length + dts.length + 1 = np) (hdb : (x == ("__debug__" : Str)) = false := by decide) (hcd : (x == ("__classdict__" : Str)) = false := by decide) (he : starEach (e :: es) X.env = (false, eval e X.env) :: starEach es X.env := by rfl) (hpl : (backTo pos (starEach es X.env)).any (·.1) = false := by rfl) :
    PE X (.Call (.Name x p) (e :: es) [] pos) (LE X.K W (vAtC i C (vMakeD C vf dts fa))) := ⟨fun pins s σ H Q I h => by
  obtain ⟨hs, ht⟩ := atC h
  refine wpAny_Call_Name_kw (thn ((pe_var (pos := p) hN hv hdb hcd).run pins s σ H (fun y H1 => y = .ref C ∧ H1 = H) I ⟨.ref C, hs, rfl, rfl⟩) fun u s1 w1 => ?_)
  obtain ⟨y, H1, J, ry, ey, eh⟩ := w1
  subst ey eh
  cases ry
  exact PySem.W.callWith_K (h₀ := X.base) J.ok.mod.kin D.mks.kp (thn (ha.run pos pins s1 σ _ _ J (le_makeD D hn ht)) fun us s2 ⟨vs, H2, J2, r, q⟩ => ⟨J2.kIn, Own.run_makeS (E := WE W) D.mks D.g hr D.b D.hd (passAt tk σ) J2 r q⟩) he hpl⟩
theorem pe_vmakeL0 {np k i : Nat} {C : Addr} {vf : VF} {dts : List T} {x : Str} {p pos : Pos} (D : MD X.prog X.w X.K X.mg X.base k np C vf dts) (hr : Room (k + 1) X.A) (hN : X.N[i]? = some x) (hv : Vis X.env.scope x) (tk : Takes X W) (hn : dts.length + 1 = np) (hdb : (x == ("__debug__" : Str)) = false := by decide) (hcd : (x == ("__classdict__" : Str)) = false := by decide) :
    PE X (.Call (.Name x p) [] [] pos) (LE X.K W (vAtC i C (vMakeD C vf dts vNil))) := ⟨fun pins s σ H Q I h => by
  obtain ⟨hs, ht⟩ := atC h
  refine wpAny_Call_Name_kw (thn ((pe_var (pos := p) hN hv hdb hcd).run pins s σ H (fun y H1 => y = .ref C ∧ H1 = H) I ⟨.ref C, hs, rfl, rfl⟩) fun u s1 w1 => ?_)
  obtain ⟨y, H1, J, ry, ey, eh⟩ := w1
  subst ey eh
  cases ry
  exact PySem.W.callWith_K0 J.kIn D.mks.kp (Own.run_makeS (us := []) (E := WE W) D.mks D.g hr D.b D.hd (passAt tk σ) J .nil (go0 D hn ht))⟩
/-! ### text.split(sep) -/
abbrev rSplit : V → List V → Hp → VK → Prop := fun x xs H Q => ∃ a b, x = .str a ∧ xs = [.str b] ∧ (b.length == 0) = false ∧ a.length + 2 ≤ sizeLine ∧ rNewStrs (Txt.split a b) H Q
def gSplit (o a : Sl) (m : List MO) : M (List T) := match o, a with
  | .val (.str x), .val (.str y) => if (y.length == 0) = false ∧ x.length + 2 ≤ SZ ∧ (Txt.split x y).length ≤ SZ then rM ((Txt.split x y).map T.str) m else none
  | _, _ => none
theorem split_go {K : PySem.W.Frag} {F0 F : Hp} {A0 A : List Addr} {ρ : List (Option Sl)} {m : List MO} {σ : L2.St} {H0 H : Hp} {x y : V} {o a : Sl} {Q : VK} (n : Nxt F0 A0 H0 F A H) (w : Wd K F A ρ m σ H) (ro : RpS K F A x o) (ra : RpS K F A y a) (g : Got K W σ ρ F A H (relN K H0) (gSplit o a m) Q) : rSplit x [y] H Q := by
  unfold gSplit at g
  split at g
  · rename_i xs ys
    split at g
    · rename_i hc
      cases ro
      cases ra
      exact ⟨xs, ys, rfl, rfl, hc.1, sz_le hc.2.1, fun p np => new_list n g w np rp_strs (by rw [List.length_map]; exact hc.2.2)⟩
    · exact none_got g
  · exact none_got g
def vSplit (fo fe : VE) : VN := fun s => bM (fo s) fun o m1 => if isStr o = true then bM (fe ⟨s.ρ, m1⟩) fun a m2 => gSplit o a m2 else none
theorem isStr_at {K : PySem.W.Frag} {F : Hp} {A : List Addr} {x : V} {o : Sl} (e : isStr o = true) (r : RpS K F A x o) : ∃ a, x = .str a := by
  unfold isStr at e
  split at e
  · cases r; exact ⟨_, rfl⟩
  · cases e
theorem pe_vsplit {o e : Expr} {fo fe : VE} {apos pos : Pos} (ho : PE X o (LE X.K W fo)) (he : PE X e (LE X.K W fe)) (hs : starEach [e] X.env = [(false, eval e X.env)] := by rfl) (hbase : attributeBase o "split" X.env (eval o X.env) = eval o X.env := by rfl) (hline : (apos.endLine == pos.line) = true := by rfl) :
    PE X (.Call (.Attribute o "split" apos) [e] [] pos) (LN X.K W (vSplit fo fe)) := PE.imp (pe_split ho he hs hbase hline) fun σ H Q ⟨F, A, ρ, m, w, g⟩ =>
  ⟨F, A, ρ, m, w, (Got.bind (R1 := rS X.K) g).mono fun x H1 ⟨F1, A1, m1, o, n1, w1, ro, q⟩ => by
    by_cases e : isStr o = true
    · rw [if_pos e] at q
      exact ⟨isStr_at e ro, F1, A1, ρ, m1, w1, (Got.bind (R1 := rS X.K) q).mono fun y H2 ⟨F2, A2, m2, s, n2, w2, rs, g2⟩ => split_go (n1.trans n2) w2 (ro.next n2.sub n2.pre) rs g2⟩
    · rw [if_neg e] at q; exact none_got q⟩
end
end Vs
end
section
/-! Vs25: try .. except X as e: name = what is read off e. -/
namespace Vs
open PySem PySem.Spec PyProof.Rows L2
variable [WW]
section
variable {K : PySem.W.Frag} {W : WX} {X : Cx}
/-- what the suite knows: the error a, of class cls, with its dict d, in slot i -/
def Cau (K : PySem.W.Frag) (i : Nat) (a : Addr) (cls : Value) (d : Option Addr) (F : Hp) (A : List Addr) (ρ : List (Option Sl)) (m : List MO) (C : Addr) (fs : List (Str × T)) (σ : L2.St) (H : Hp) : Prop :=
  Wd K F A ρ m σ H ∧ cls = .ref C ∧ (∃ dd vs, d = some dd ∧ H dd = some (.xd vs) ∧ RpF K F vs fs) ∧ σ[i]? = some (some (.ref a))
abbrev XP := Addr → List (Str × T) → Option T
abbrev XB := Addr → List (Str × T) → Option Bool
/-- a value read off the error; a test of it: the heap stays -/
def LP1 (K : PySem.W.Frag) (i : Nat) (a : Addr) (cls : Value) (d : Option Addr) (f : XP) : TE := fun σ H Q => ∃ F A ρ m C fs, Cau K i a cls d F A ρ m C fs σ H ∧ ∃ t, f C fs = some t ∧ ∀ v, Rp K F v t → Q v H
def LB1 (K : PySem.W.Frag) (i : Nat) (a : Addr) (cls : Value) (d : Option Addr) (f : XB) : TT := fun σ H Q => ∃ F A ρ m C fs, Cau K i a cls d F A ρ m C fs σ H ∧ ∃ b, f C fs = some b ∧ Q b H
section
variable {i : Nat} {a : Addr} {cls : Value} {d : Option Addr}
theorem lp_c {v : V} {t : T} (r : ∀ F, Rp K F v t) {σ : L2.St} {H : Hp} {Q : VK} (h : LP1 K i a cls d (fun _ _ => some t) σ H Q) : tC v σ H Q := by
  obtain ⟨F, A, ρ, m, C, fs, _, t', e, k⟩ := h
  cases e
  exact k v (r F)
theorem pe_xstr {x : Str} {j : Nat} {pos : Pos} : PE X (.Constant (.str x) j pos) (LP1 X.K i a cls d fun _ _ => some (.str x)) := PE.imp pe_str fun _ _ _ => lp_c fun _ => .str x
theorem pe_xint {x : Int} {j : Nat} {pos : Pos} : PE X (.Constant (.int x) j pos) (LP1 X.K i a cls d fun _ _ => some (.int x)) := PE.imp pe_int fun _ _ _ => lp_c fun _ => .int x
def xIf (c : XB) (f g : XP) : XP := fun C fs => match c C fs with
  | some true => f C fs
  | some false => g C fs
  | none => none
theorem pe_xif {c e1 e2 : Expr} {fc : XB} {f g : XP} {pos : Pos} (hc : PT X c (LB1 K i a cls d fc)) (h1 : PE X e1 (LP1 K i a cls d f)) (h2 : PE X e2 (LP1 K i a cls d g)) : PE X (.IfExp c e1 e2 pos) (LP1 K i a cls d (xIf fc f g)) := PE.imp (pe_ifExp hc h1 h2) fun σ H Q ⟨F, A, ρ, m, C, fs, cau, t, e, k⟩ => by
  unfold xIf at e
  split at e
  · rename_i eb
    exact ⟨F, A, ρ, m, C, fs, cau, true, eb, by show (if (true : Bool) = true then _ else _); rw [if_pos rfl]; exact ⟨F, A, ρ, m, C, fs, cau, t, e, k⟩⟩
  · rename_i eb
    exact ⟨F, A, ρ, m, C, fs, cau, false, eb, by show (if (false : Bool) = true then _ else _); rw [if_neg Bool.false_ne_true]; exact ⟨F, A, ρ, m, C, fs, cau, t, e, k⟩⟩
  · cases e
def xNot (c : XB) : XB := fun C fs => (c C fs).map (!·)
theorem pt_xnot {e : Expr} {fc : XB} {pos : Pos} (h : PT X e (LB1 K i a cls d fc)) : PT X (.UnaryOp .Not e pos) (LB1 K i a cls d (xNot fc)) := PT.imp (pt_not h) fun σ H Q ⟨F, A, ρ, m, C, fs, cau, b, e, k⟩ => by
  unfold xNot at e
  cases z : fc C fs with
  | none => rw [z] at e; cases e
  | some b' => rw [z] at e; cases e; exact ⟨F, A, ρ, m, C, fs, cau, b', z, k⟩
def xAnd (c1 c2 : XB) : XB := fun C fs => match c1 C fs with
  | some true => c2 C fs
  | some false => some false
  | none => none
theorem pw_xand {e1 e2 : Expr} {rest : List Expr} {f g : XB} {pos : Pos} (ha : PT X e1 (LB1 K i a cls d f)) (hb : PW X (.BoolOp .And (e2 :: rest) pos) (LB1 K i a cls d g)) : PW X (.BoolOp .And (e1 :: e2 :: rest) pos) (LB1 K i a cls d (xAnd f g)) := PW.imp (pw_and ha hb) fun σ H Q ⟨F, A, ρ, m, C, fs, cau, b, e, k⟩ => by
  unfold xAnd at e
  split at e
  · rename_i z
    exact ⟨F, A, ρ, m, C, fs, cau, true, z, by show (if (true : Bool) = true then _ else _); rw [if_pos rfl]; exact ⟨F, A, ρ, m, C, fs, cau, b, e, k⟩⟩
  · rename_i z
    cases e
    exact ⟨F, A, ρ, m, C, fs, cau, false, z, by show (if (false : Bool) = true then _ else _); rw [if_neg Bool.false_ne_true]; exact k⟩
  · cases e
theorem pw_xand1 {e1 : Expr} {f : XB} {pos : Pos} (ha : PT X e1 (LB1 K i a cls d f)) : PW X (.BoolOp .And [e1] pos) (LB1 K i a cls d f) := pw_and1 ha
/-- isinstance(e, T), e.f : e of class D -/
def xIsi (D : Addr) (b : Bool) : XB := fun C _ => if C = D then some b else none
def xFld (D : Addr) (f : Str) : XP := fun C fs => if C = D then fs.lookup f else none
end
section
variable {i : Nat} {a D T' : Addr} {cls : Value} {d : Option Addr} {oe : Obj} {pn : List (Addr × Obj)} {n c : Str} {p p2 p3 pos : Pos}
theorem pt_xisi {b : Bool} (hx : L2.ExcC X.K D) (hk : PySem.W.kitOne X.K (.ref D) (.ref T') = some b) (hz : Zc cls d oe) (hf : ∃ vs, oe.data = .fields vs) (hg : Gl (X.suite a ((a, oe) :: pn)) "isinstance") (hm : (X.suite a ((a, oe) :: pn)).mg "isinstance" = none) (hN : (X.suite a ((a, oe) :: pn)).N[i]? = some n) (hv : Vis (X.suite a ((a, oe) :: pn)).env.scope n) (hc : PE (X.suite a ((a, oe) :: pn)) (.Name c p3) (tC (.ref T')))
    (hd : (n == ("__debug__" : Str)) = false := by decide) (hcd : (n == ("__classdict__" : Str)) = false := by decide)
    (hs1 : starEach [.Name n p2, .Name c p3] (X.suite a ((a, oe) :: pn)).env = (false, eval (.Name n p2) (X.suite a ((a, oe) :: pn)).env) :: starEach [.Name c p3] (X.suite a ((a, oe) :: pn)).env := by rfl) (hpl : (backTo pos (starEach [.Name c p3] (X.suite a ((a, oe) :: pn)).env)).any (·.1) = false := by rfl) (hs2 : starEach [.Name c p3] (X.suite a ((a, oe) :: pn)).env = (false, eval (.Name c p3) (X.suite a ((a, oe) :: pn)).env) :: starEach [] (X.suite a ((a, oe) :: pn)).env := by rfl)
    (he : ∀ whole, isTrue (.Call (.Name "isinstance" p) [.Name n p2, .Name c p3] [] pos) (X.suite a ((a, oe) :: pn)).env whole = (do let v ← whole; standAt (Expr.Call (.Name "isinstance" p) [.Name n p2, .Name c p3] [] pos).pos; holding [v] (truthy v)) := by intro _; rfl) :
    PT (X.suite a ((a, oe) :: pn)) (.Call (.Name "isinstance" p) [.Name n p2, .Name c p3] [] pos) (LB1 X.K i a cls d (xIsi D b)) := PT.imp (pt_val (pe_callB (Own.call_isX hx hz hf) hg hm (by decide +kernel) (pa_cons (pe_var hN hv hd hcd) (pa_cons hc pa_nil hs2) hs1) (by decide) (by decide) hs1 hpl) he) fun σ H Q ⟨F, A, ρ, m, C, fs, ⟨w, ec, ⟨dd, vs, ed, eh, rf⟩, es⟩, b', e, k⟩ => by
  unfold xIsi at e
  split at e
  · rename_i eC
    cases e
    subst eC
    exact ⟨.ref a, es, T', b, dd, vs, rfl, ec, hk, ed, eh, b, rfl, k⟩
  · cases e
theorem pe_xfld {f : Str} (T : XfC X.K D) (hno : PySem.W.findIn X.K (.ref D) f = some none) (hz : Zc cls d oe) (hf : ∃ vs, oe.data = .fields vs) (hN : (X.suite a ((a, oe) :: pn)).N[i]? = some n) (hv : Vis (X.suite a ((a, oe) :: pn)).env.scope n) (hd : (n == ("__debug__" : Str)) = false := by decide) (hcd : (n == ("__classdict__" : Str)) = false := by decide)
    (hb : attributeBase (.Name n p2) f X.env (eval (.Name n p2) X.env) = eval (.Name n p2) X.env := by rfl) : PE (X.suite a ((a, oe) :: pn)) (.Attribute (.Name n p2) f pos) (LP1 X.K i a cls d (xFld D f)) := PE.imp (pe_xf T hno hz hf (pe_var hN hv hd hcd) hb) fun σ H Q ⟨F, A, ρ, m, C, fs, ⟨w, ec, ⟨dd, vs, ed, eh, rf⟩, es⟩, t, e, k⟩ => by
  unfold xFld at e
  split at e
  · rename_i eC
    subst eC
    obtain ⟨v, ev, rv⟩ := rf.lookup e
    exact ⟨.ref a, es, rfl, ec, dd, vs, v, ed, eh, ev, k v rv⟩
  · cases e
end
/-! ### the suite: name = .., and the try -/
def LS1 (K : PySem.W.Frag) (i : Nat) (a : Addr) (cls : Value) (d : Option Addr) (W : WX) (g : Addr → List (Str × T) → VS) : TS := fun D σ H => ∃ F A ρ m C fs, Cau K i a cls d F A ρ m C fs σ H ∧ Ran K W F A H D (g C fs ⟨ρ, m⟩)
def xSet (j : Nat) (f : XP) : Addr → List (Str × T) → VS := fun C fs s => match f C fs with
  | some t => some (.nx, ⟨s.ρ.set j (some (.val t)), s.m⟩)
  | none => none
theorem ps_xset {i j : Nat} {a : Addr} {cls : Value} {d : Option Addr} {x : Str} {e : Expr} {f : XP} {pos pos' : Pos} (hN : X.N.Nodup) (hi : X.N[j]? = some x) (hx : Loc X.env.scope x) (he : PE X e (LP1 K i a cls d f)) (hs : swapsWith e (some (.Name x pos')) pos.line X.env = pure false := by rfl)
    (hf : X.fn x = true ∨ X.env.scope.names.lookup x = some .local := by first | exact .inl rfl | exact .inr rfl) : PS X (.Assign [.Name x pos'] e pos) (LS1 K i a cls d W (xSet j f)) := PS.imp (ps_set hN hi hx he hs hf) fun D σ H ⟨F, A, ρ, m, C, fs, cau, r⟩ => by
  unfold xSet at r
  split at r
  · rename_i t e
    exact ⟨F, A, ρ, m, C, fs, cau, t, e, fun v rv => r.nx (cau.1.set (r := .val t) rv)⟩
  · exact none_ran r
def vTry (mt : Addr → Option Bool) (i : Nat) (fb : VS) (g : Addr → List (Str × T) → VS) : VS := fun s => match fb s with
  | some (.ex C fs, s1) => match mt C with
    | some true => if i < s1.ρ.length then match g C fs ⟨s1.ρ.set i none, s1.m⟩ with
        | some (.nx, s2) => some (.nx, ⟨s2.ρ.set i none, s2.m⟩)
        | _ => none
      else none
    | some false => some (.ex C fs, s1)
    | none => none
  | x => x
theorem Wd.unset {F : Hp} {A : List Addr} {ρ : List (Option Sl)} {m : List MO} {σ : L2.St} {H : Hp} {i : Nat} {o : Option V} (w : Wd K F A ρ m σ H) : Wd K F A (ρ.set i none) m (σ.set i o) H := by
  refine ⟨w.os, fun j s z => ?_, by rw [List.length_set, List.length_set]; exact w.slen⟩
  by_cases e : i = j
  · subst e
    have hl : i < ρ.length := by
      have := (List.getElem?_eq_some_iff.mp z).1
      rw [List.length_set] at this
      exact this
    rw [List.getElem?_set_self hl] at z
    cases z
  · rw [List.getElem?_set_ne e] at z
    obtain ⟨v, h1, h2⟩ := w.slot j s z
    exact ⟨v, by rw [List.getElem?_set_ne e]; exact h1, h2⟩
theorem ls_try {c : Value} {mt : Addr → Option Bool} {i : Nat} {fb : VS} {g : Addr → List (Str × T) → VS} (hmt : ∀ C b, mt C = some b → PySem.W.exmOne K (.ref C) c = some b) {D : Ends} {σ : L2.St} {H : Hp} (h : LS K W (vTry mt i fb g) D σ H) :
    LS K (wAs K c i (fun a cls d => LS1 K i a cls d W g) W D) fb D σ H := by
  obtain ⟨F, A, ρ, m, w, r⟩ := h
  refine ⟨F, A, ρ, m, w, ?_⟩
  unfold vTry at r
  match e : fb ⟨ρ, m⟩, r with
  | none, r => exact none_ran (show Ran K W F A H D none from r)
  | some (.nx, s1), r =>
    obtain ⟨_, _, z, r⟩ := (show Ran K W F A H D (some (.nx, s1)) from r)
    cases z
    exact ⟨_, _, rfl, r⟩
  | some (.bk, s1), r =>
    obtain ⟨_, _, z, r⟩ := (show Ran K W F A H D (some (.bk, s1)) from r)
    cases z
    exact ⟨_, _, rfl, r⟩
  | some (.ct, s1), r =>
    obtain ⟨_, _, z, r⟩ := (show Ran K W F A H D (some (.ct, s1)) from r)
    cases z
    exact ⟨_, _, rfl, r⟩
  | some (.rt v, s1), r =>
    obtain ⟨_, _, z, r⟩ := (show Ran K W F A H D (some (.rt v, s1)) from r)
    cases z
    exact ⟨_, _, rfl, r⟩
  | some (.ex C fs, s1), r =>
    refine ⟨_, _, rfl, fun F' A' σ' d vs H' n' w' rf hd => ?_⟩
    have r : Ran K W F A H D (match mt C with
      | some true => if i < s1.ρ.length then match g C fs ⟨s1.ρ.set i none, s1.m⟩ with
          | some (.nx, s2) => some (.nx, ⟨s2.ρ.set i none, s2.m⟩)
          | _ => none
        else none
      | some false => some (.ex C fs, s1)
      | none => none) := r
    split at r
    · rename_i em
      refine ⟨true, hmt C true em, fun _ a na => ?_, fun z => Bool.noConfusion z⟩
      split at r
      · rename_i hl
        split at r
        · rename_i s2 eg
          exact ⟨F', A', s1.ρ.set i none, s1.m, C, fs, ⟨w'.unset, rfl, ⟨d, vs, rfl, hd, rf⟩, List.getElem?_set_self (by rw [← w'.slen]; exact hl)⟩, _, _, eg, fun F2 A2 σ2 H2 n2 w2 => (r.later (n'.trans n2)).nx w2.unset⟩
        · exact none_ran r
      · exact none_ran r
    · rename_i em
      refine ⟨false, hmt C false em, fun z => Bool.noConfusion z, fun _ => ?_⟩
      obtain ⟨_, _, z, r⟩ := r
      cases z
      exact r F' A' σ' d vs H' n' w' rf hd
    · exact none_ran r
theorem ps_vtry {x n : Str} {c : Value} {mt : Addr → Option Bool} {i : Nat} {fb : VS} {g : Addr → List (Str × T) → VS} {body suite : List Stmt} {b₀ : Stmt} {np pos pos' : Pos} (hmt : ∀ C b, mt C = some b → PySem.W.exmOne X.K (.ref C) c = some b) (hs : X.stack = X.env :: X.outer) (hf : X.env.frame = some X.env.locals) (hN : X.N.Nodup) (hi : X.N[i]? = some n) (hln : X.env.kindOf n = some .local) (hc : Names X x c) (tk : Takes X W)
    (hb : ∀ (W : WX) (pn : List (Addr × Obj)) (xe : Value → Shared → Prop), Takes (X.tr pn xe) W → PassesOwn (model X.prog X.w) X.A X.env xe → PSs (X.tr pn xe) body (LS X.K W fb))
    (hsu : ∀ (a : Addr) (oe : Obj) (cls : Value) (d : Option Addr) (pn : List (Addr × Obj)), Zc cls d oe → (∃ vs, oe.data = .fields vs) → PSs (X.suite a ((a, oe) :: pn)) (b₀ :: suite) (LS1 X.K i a cls d W g)) :
    PS X (.Try body [.ExceptHandler (some (.Name x np)) (some n) (b₀ :: suite) pos'] [] [] pos) (LS X.K W (vTry mt i fb g)) := PS.imp (ps_try_as (tb := fun W => LS X.K W fb) (ts := fun a cls d => LS1 X.K i a cls d W g) (Wout := W) hs hf hN hi hln hc tk hb hsu) fun D σ H h => ls_try hmt h
/-- a try whose body raises nothing here -/
def vNoEx (fb : VS) : VS := fun s => match fb s with
  | some (.ex _ _, _) => none
  | x => x
theorem ls_noEx {fb : VS} {D : Ends} {σ : L2.St} {H : Hp} (h : LS K W (vNoEx fb) D σ H) : LS K W0 fb D σ H := by
  obtain ⟨F, A, ρ, m, w, r⟩ := h
  refine ⟨F, A, ρ, m, w, ?_⟩
  unfold vNoEx at r
  match e : fb ⟨ρ, m⟩, r with
  | none, r => exact none_ran (show Ran K W F A H D none from r)
  | some (.nx, s1), r =>
    obtain ⟨_, _, z, r⟩ := (show Ran K W F A H D (some (.nx, s1)) from r)
    cases z
    exact ⟨_, _, rfl, r⟩
  | some (.bk, s1), r =>
    obtain ⟨_, _, z, r⟩ := (show Ran K W F A H D (some (.bk, s1)) from r)
    cases z
    exact ⟨_, _, rfl, r⟩
  | some (.ct, s1), r =>
    obtain ⟨_, _, z, r⟩ := (show Ran K W F A H D (some (.ct, s1)) from r)
    cases z
    exact ⟨_, _, rfl, r⟩
  | some (.rt v, s1), r =>
    obtain ⟨_, _, z, r⟩ := (show Ran K W F A H D (some (.rt v, s1)) from r)
    cases z
    exact ⟨_, _, rfl, r⟩
  | some (.ex C fs, s1), r => exact none_ran (show Ran K W F A H D none from r)
theorem ps_vthru {fb : VS} {body : List Stmt} {h₀ : ExceptHandler} {hs : List ExceptHandler} {pos : Pos} (hb : PSs X.nox body (LS X.K W0 fb)) : PS X (.Try body (h₀ :: hs) [] [] pos) (LS X.K W (vNoEx fb)) := PS.imp (ps_try_thru0 hb) fun _ _ _ => ls_noEx
theorem pss_vone1 {K : PySem.W.Frag} {i : Nat} {a : Addr} {cls : Value} {d : Option Addr} {W : WX} {st : Stmt} {g : Addr → List (Str × T) → VS} (h : PS X st (LS1 K i a cls d W g)) : PSs X [st] (LS1 K i a cls d W g) := pss_one h
end
end Vs
end
section
/-! Vs26: errors without arguments, raised (what makes them is a premise: MkZ). -/
namespace Vs
open PySem PySem.Spec PyProof.Rows L2
variable [WW]
/-- C() makes an error without fields -/
def MkZ (P : Program) (w : World) (K : PySem.W.Frag) (mg : Str → Option Value) (base : Heap) (k : Nat) (x : Str) (C : Addr) : Prop :=
  ∀ (X : Cx) (p pos : Pos), X.prog = P → X.w = w → X.K = K → X.mg = mg → X.base = base → X.calm = true → Room k X.A → Gl X x → PMk X (.Call (.Name x p) [] [] pos) (fun _ H Q => ∀ d, H d = none → Q (.ref C) (some d) (upd H d (.xd [])))
section
variable {W : WX} {X : Cx}
def vRaise0 (C : Addr) : VS := fun s => some (.ex C [], s)
theorem ps_vraise0 {k : Nat} {x : Str} {C : Addr} {p p2 pos : Pos} (Z : MkZ X.prog X.w X.K X.mg X.base k x C) (hc : X.calm = true) (tk : Takes X W) (hr : Room k X.A) (hg : Gl X x) : PS X (.Raise (some (.Call (.Name x p) [] [] p2)) none pos) (LS X.K W (vRaise0 C)) := PS.imp (ps_raise hc tk (Z X p p2 rfl rfl rfl rfl rfl hc hr hg)) fun D σ H ⟨F, A, ρ, m, w, r⟩ => fun d nd => by
  obtain ⟨_, _, z, q⟩ := r
  cases z
  exact q F A σ d [] _ ⟨Same.refl _, List.prefix_refl _, fun _ _ e => .inl e, fun _ h => .inl h, fun b o e _ => by rw [upd_ne (ne_of_none e nd)]; exact e⟩ (w.of (Same.refl _) (List.prefix_refl _) (w.os.keep nd)) .nil upd_same
end
end Vs
end
section
/-! Vs27: what is not reached; x += i, o.f += i, xs[i] = v. -/
namespace Vs
open PySem PySem.Spec PyProof.Rows L2
variable [WW]
section
variable {K : PySem.W.Frag} {W : WX} {X : Cx}
/-- a statement, an expression that is not reached: its function has no answer -/
def vNever : VS := fun _ => none
def vNeverE : VE := fun _ => none
theorem ps_vnever {st : Stmt} : PS X st (LS K W vNever) := PS.imp ps_never fun D σ H ⟨F, A, ρ, m, w, r⟩ => none_ran r
theorem pe_vnever {e : Expr} : PE X e (LE K W vNeverE) := ⟨fun _ _ _ _ _ _ ⟨_, _, _, _, _, g⟩ => none_got g⟩
/-- name += an int -/
def gAug (i : Nat) (ρ : List (Option Sl)) (f : Int → Int → Int) (y : Sl) (m : List MO) : R := match ρ[i]?, y with
  | some (some (.val (.int a))), .val (.int b) => some (.nx, ⟨ρ.set i (some (.val (.int (f a b)))), m⟩)
  | _, _ => none
def vHas (i : Nat) (g : VS) : VS := fun s => match s.ρ[i]? with
  | some (some (.val (.int _))) => g s
  | _ => none
def vAug (i : Nat) (f : Int → Int → Int) (fe : VE) : VS := vHas i fun s => bS s.ρ (fe s) (gAug i s.ρ f)
theorem ls_aug {i : Nat} {f : Int → Int → Int} {fe : VE} {D : Ends} {σ : L2.St} {H : Hp} (h : LS K W (vAug i f fe) D σ H) : tAug i (LE K W fe) (ipI f) D σ H := by
  obtain ⟨F, A, ρ, m, w, r⟩ := h
  unfold vAug vHas at r
  split at r
  · rename_i a e
    obtain ⟨v, h1, h2⟩ := w.slot i _ e
    cases h2
    refine ⟨.int a, h1, F, A, ρ, m, w, (Ran.bS (rS K) r).mono fun y H1 ⟨F1, A1, m1, s, n1, w1, ry, q⟩ => ?_⟩
    unfold gAug at q
    split at q
    · rename_i a' b e2
      simp only at e e2
      rw [e] at e2
      cases e2
      cases ry
      exact ⟨_, _, rfl, rfl, q.nx (w1.set (r := .val (.int (f a b))) (show Rp K F1 _ _ from .int _))⟩
    · exact none_ran q
  · exact none_ran r
theorem ps_vaug {i : Nat} {x : Str} {e : Expr} {fe : VE} {op : Operator} {f : Int → Int → Int} {pos pos' : Pos} (hN : X.N.Nodup) (hi : X.N[i]? = some x) (hx : Loc X.env.scope x) (he : PE X e (LE X.K W fe)) (ho : PIp X op (ipI f)) (hf : X.fn x = true ∨ X.env.scope.names.lookup x = some .local := by first | exact .inl rfl | exact .inr rfl) :
    PS X (.AugAssign (.Name x pos') op e pos) (LS X.K W (vAug i f fe)) := PS.imp (ps_aug hN hi hx he ho hf) fun _ _ _ => ls_aug
end
end Vs
end
section
/-! Vs28: xs[i] = v, o.f += i. -/
namespace Vs
open PySem PySem.Spec PyProof.Rows L2
variable [WW]
section
variable {K : PySem.W.Frag} {W : WX} {X : Cx}
def gSetI (ρ : List (Option Sl)) (v o k : Sl) (m : List MO) : R := match v, o, k with
  | .val t, .own j, .val (.int i) => match m[j]? with
    | some (.lst ts) => match ixN ts.length i with
      | some p => some (.nx, ⟨ρ, m.set j (.lst (ts.set p t))⟩)
      | none => none
    | _ => none
  | _, _, _ => none
theorem setI_go {F : Hp} {A : List Addr} {ρ : List (Option Sl)} {m : List MO} {σ : L2.St} {H : Hp} {D : Ends} {v o k : Sl} {x y z : V} (w : Wd K F A ρ m σ H) (rv : RpS K F A x v) (ro : RpS K F A y o) (rk : RpS K F A z k) (q : Ran K W F A H D (gSetI ρ v o k m)) : rSetL y z x H fun H4 => D.nx σ H4 := by
  unfold gSetI at q
  split at q
  · rename_i t j i
    split at q
    · rename_i ts em
      split at q
      · rename_i p ep
        obtain ⟨a, ea, rfl⟩ := ro
        obtain ⟨fa, xs, eh, rl⟩ := w.os.obj j a _ ea em
        cases rk
        refine ⟨a, xs, i, p, rfl, rfl, eh, by rw [rl.length]; exact ep, ?_⟩
        have wr := w.os.write ea fa (u := .lst (xs.set p x)) (o := .lst (ts.set p t)) ⟨fa, _, upd_same, rl.set p rv⟩
        exact (q.later (Nxt.write (List.mem_of_getElem? ea))).nx (w.of (Same.refl _) (List.prefix_refl _) wr)
      · exact none_ran q
    · exact none_ran q
  · exact none_ran q
def vSetI (fo fi fv : VE) : VS := fun s => bS s.ρ (fv s) fun v m1 => bS s.ρ (fo ⟨s.ρ, m1⟩) fun o m2 => bS s.ρ (fi ⟨s.ρ, m2⟩) fun k m3 => gSetI s.ρ v o k m3
theorem ps_vsetI {o i value : Expr} {fo fi fv : VE} {pos p2 : Pos} (ho : PE X o (LE X.K W fo)) (hi : PE X i (LE X.K W fi)) (hv : PE X value (LE X.K W fv))
    (ha : ∀ v, assign (.Subscript o i p2) X.env v = (do
      let ov ← holding [v] (eval o X.env)
      let iv ← holding [v, ov] (eval i X.env)
      standAt p2
      holding [v, ov, iv] (setItem ov iv v)
      release [v, ov, iv] []) := by intro _; rfl) (hs : swapsWithSole [.Subscript o i p2] value pos.line X.env = pure false := by rfl) (hw : swappedStores [.Subscript o i p2] value X.env = pure none := by rfl)
    (h1 : (assignEach [.Subscript o i p2] X.env).map (·.2) = [assign (.Subscript o i p2) X.env] := by rfl) : PS X (.Assign [.Subscript o i p2] value pos) (LS X.K W (vSetI fo fi fv)) := PS.imp (ps_asg hv (pg_sub ho hi set_list ha) hs hw h1) fun D σ H ⟨F, A, ρ, m, w, r⟩ =>
  ⟨F, A, ρ, m, w, (Ran.bS (rS X.K) r).mono fun x H1 ⟨F1, A1, m1, v, n1, w1, rv, q1⟩ => ⟨F1, A1, ρ, m1, w1, (Ran.bS (rS X.K) q1).mono fun y H2 ⟨F2, A2, m2, d, n2, w2, rd, q2⟩ => ⟨F2, A2, ρ, m2, w2, (Ran.bS (rS X.K) q2).mono fun z H3 ⟨F3, A3, m3, k, n3, w3, rk, q3⟩ =>
    setI_go w3 (rv.next (n2.sub.trans n3.sub) (List.IsPrefix.trans n2.pre n3.pre)) (rd.next n3.sub n3.pre) rk q3⟩⟩⟩
/-- o.f += an int -/
def intFld (ok : Addr → Bool) (f : Str) (o : Sl) (m : List MO) : Option (Nat × Addr × Int) := match o with
  | .own i => match m[i]? with
    | some (.ins C fs) => if ok C = true then match fs.lookup f with
      | some (.val (.int a)) => some (i, C, a)
      | _ => none
      else none
    | _ => none
  | _ => none
def gAugF (ρ : List (Option Sl)) (f : Str) (i : Nat) (C : Addr) (a : Int) (y : Sl) (m : List MO) : R := match y with
  | .val (.int b) => match m[i]? with
    | some (.ins C' fs) => if C' = C ∧ fs.length < 1000 then some (.nx, ⟨ρ, m.set i (.ins C (putS f (.val (.int (a + b))) fs))⟩) else none
    | _ => none
  | _ => none
def vAugF (ok : Addr → Bool) (f : Str) (fo fv : VE) : VS := fun s => bS s.ρ (fo s) fun o m1 => match intFld ok f o m1 with
  | some (i, C, a) => bS s.ρ (fv ⟨s.ρ, m1⟩) fun y m2 => gAugF s.ρ f i C a y m2
  | none => none
theorem intFld_at {ok : Addr → Bool} {f : Str} {o : Sl} {m : List MO} {i : Nat} {C : Addr} {b : Int} {F : Hp} {A : List Addr} {H : Hp} {x : V} (w : Objs K F A m H) (r : RpS K F A x o) (e : intFld ok f o m = some (i, C, b)) : ok C = true ∧ ∃ a dx vs, x = .ref a ∧ A[i]? = some a ∧ H a = some (.ins C dx vs) ∧ vs.lookup f = some (.int b) := by
  unfold intFld at e
  split at e
  · rename_i j
    split at e
    · rename_i C' fs em
      split at e
      · rename_i hc
        split at e
        · rename_i b' el
          cases e
          obtain ⟨a, ea, rfl⟩ := r
          obtain ⟨fa, dx, vs, eh, rg⟩ := w.obj _ a _ ea em
          obtain ⟨v, ev, rv⟩ := rg.lookup el
          cases rv
          exact ⟨hc, a, dx, vs, rfl, ea, eh, ev⟩
        · cases e
      · cases e
    · cases e
  · cases e
theorem ps_vaugF {o value : Expr} {f : Str} {fo fv : VE} {tpos pos : Pos} (ok : Addr → Bool) (hok : FldOk X.K f ok) (ho : PE X o (LE X.K W fo)) (hv : PE X value (LE X.K W fv)) : PS X (.AugAssign (.Attribute o f tpos) .Add value pos) (LS X.K W (vAugF ok f fo fv)) := PS.imp (ps_fldaug ho hv in_add) fun D σ H ⟨F, A, ρ, m, w, r⟩ =>
  ⟨F, A, ρ, m, w, (Ran.bS (rS X.K) r).mono fun x H1 ⟨F1, A1, m1, s, n1, w1, rx, q1⟩ => by
    split at q1
    · rename_i i C b e
      obtain ⟨hc, a, dx, vs, rfl, ea, eh, ev⟩ := intFld_at w1.os rx e
      refine ⟨a, C, dx, vs, .int b, rfl, eh, (hok C hc).1, (hok C hc).2, ev, F1, A1, ρ, m1, w1, (Ran.bS (rS X.K) q1).mono fun y H2 ⟨F2, A2, m2, t, n2, w2, ry, q2⟩ => ?_⟩
      unfold gAugF at q2
      split at q2
      · rename_i b2
        split at q2
        · rename_i C' fs em
          split at q2
          · rename_i hh
            obtain ⟨rfl, hl⟩ := hh
            cases ry
            have ea2 := pre_get n2.pre ea
            obtain ⟨fa, dx2, vs2, eh2, rg⟩ := w2.os.obj i a _ ea2 em
            refine ⟨b, b2, rfl, rfl, dx2, vs2, eh2, by rw [rg.length]; exact hl, ?_⟩
            have wr := w2.os.write ea2 fa (u := .ins C' dx2 (putF f (.int (b + b2)) vs2)) (o := .ins C' (putS f (.val (.int (b + b2))) fs)) ⟨fa, dx2, _, upd_same, rg.putF (show RpS X.K F2 A2 _ (.val (.int _)) from .int _)⟩
            exact (q2.later (Nxt.write (List.mem_of_getElem? ea2))).nx (w2.of (Same.refl _) (List.prefix_refl _) wr)
          · exact none_ran q2
        · exact none_ran q2
      · exact none_ran q2
    · exact none_ran q1⟩
end
end Vs
end
section
/-! Vs29: an instance with its lists is frozen; for over an own list; xs[i] += e; constant dicts by texts; a call of a local that holds a def; C(k = ..). -/
namespace Vs
open PySem PySem.Spec PyProof.Rows L2
variable [WW]
section
variable {K : PySem.W.Frag} {W : WX} {X : Cx}
/-! ### an instance with its lists -/
def frzFs : List (Str × Sl) → List MO → Option (List (Str × T) × List MO)
  | [], m => some ([], m)
  | (x, .val t) :: r, m => match frzFs r m with
    | some (ts, m') => some ((x, t) :: ts, m')
    | none => none
  | (x, .own j) :: r, m => match m[j]? with
    | some (.lst ts) => match frzFs r (m.set j .dead) with
      | some (us, m') => some ((x, .lst ts) :: us, m')
      | none => none
    | _ => none
theorem frzFs_ok {A : List Addr} {ρ : List (Option Sl)} {σ : L2.St} {H : Hp} : ∀ {fs : List (Str × Sl)} {vs : List (Str × V)} {F : Hp} {m m' : List MO} {ts : List (Str × T)}, Wd K F A ρ m σ H → RpG K F A vs fs → frzFs fs m = some (ts, m') →
    ∃ F', Nxt F A H F' A H ∧ Wd K F' A ρ m' σ H ∧ RpF K F' vs ts ∧ ∀ (i : Nat) (C : Addr) (gs : List (Str × Sl)), m[i]? = some (MO.ins C gs) → m'[i]? = some (MO.ins C gs)
  | [], _, F, m, m', ts, w, .nil, e => by
    cases e
    exact ⟨F, Nxt.refl, w, .nil, fun _ _ _ h => h⟩
  | (x, .val t) :: r, _, F, m, m', ts, w, .cons h q, e => by
    unfold frzFs at e
    cases z : frzFs r m with
    | none => rw [z] at e; cases e
    | some p =>
      obtain ⟨us, m2⟩ := p
      rw [z] at e
      cases e
      obtain ⟨F', n, w', rf, k⟩ := frzFs_ok w q z
      exact ⟨F', n, w', .cons (Rp.same n.sub h) rf, k⟩
  | (x, .own j) :: r, _, F, m, m', ts, w, .cons h q, e => by
    unfold frzFs at e
    cases em : m[j]? with
    | none => rw [em] at e; cases e
    | some o =>
      rw [em] at e
      cases o with
      | lst us =>
        simp only at e
        cases z : frzFs r (m.set j .dead) with
        | none => rw [z] at e; cases e
        | some p =>
          obtain ⟨vs', m2⟩ := p
          rw [z] at e
          cases e
          obtain ⟨a, ea, rfl⟩ := h
          obtain ⟨fa, xs, eh, rl⟩ := w.os.obj j a _ ea em
          obtain ⟨n1, w1⟩ := freeze w ea em fa eh
          obtain ⟨F', n, w', rf, k⟩ := frzFs_ok w1 (q.next n1.sub n1.pre) z
          refine ⟨F', n1.trans n, w', .cons (Rp.lst (n.sub _ _ upd_same) (rl.same (n1.sub.trans n.sub))) rf, fun i C gs hi => k i C gs ?_⟩
          have ne : j ≠ i := fun z => by rw [z] at em; rw [hi] at em; cases em
          rw [List.getElem?_set_ne ne]
          exact hi
      | rcd _ => cases e
      | ins _ _ => cases e
      | lsO _ => cases e
      | dct _ => cases e
      | dead => cases e
def gInsD (r : Sl) (m : List MO) : M Sl := match r with
  | .own i => match m[i]? with
    | some (.ins C fs) => match frzFs fs m with
      | some (ts, m') => rM (.val (.ins C ts)) (m'.set i .dead)
      | none => none
    | some (.lst ts) => rM (.val (.lst ts)) (m.set i .dead)
    | _ => none
  | s => rM s m
def vInsD (f : VE) : VE := fun s => bM (f s) gInsD
theorem le_insD {f : VE} {σ : L2.St} {H : Hp} {Q : VK} (h : LE K W (vInsD f) σ H Q) : LE K W f σ H Q := by
  obtain ⟨F, A, ρ, m, w, got⟩ := h
  refine ⟨F, A, ρ, m, w, (Got.bind (R1 := rS K) got).mono fun x H1 ⟨F1, A1, m1, a, n1, w1, ra, q⟩ => ?_⟩
  unfold gInsD at q
  split at q
  · rename_i i
    split at q
    · rename_i C fs em
      split at q
      · rename_i ts m' et
        obtain ⟨ad, ea, rfl⟩ := ra
        obtain ⟨fa, dx, vs, eh, rg⟩ := w1.os.obj i ad _ ea em
        obtain ⟨F2, n2, w2, rf, kk⟩ := frzFs_ok w1 rg et
        obtain ⟨fa2, dx2, vs2, eh2, rg2⟩ := w2.os.obj i ad _ ea (kk _ _ _ em)
        obtain ⟨n3, w3⟩ := freezeU w2 ea fa2 eh
        exact q.fin (n2.trans n3) w3 (show RpS K _ A1 (.ref ad) (.val (.ins C ts)) from .ins upd_same (rf.same' n3.sub))
      · exact none_got q
    · rename_i ts em
      obtain ⟨ad, ea, rfl⟩ := ra
      obtain ⟨fa, xs, eh, rl⟩ := w1.os.obj i ad _ ea em
      obtain ⟨n2, w2⟩ := freeze w1 ea em fa eh
      exact q.fin n2 w2 (show RpS K _ A1 (.ref ad) (.val (.lst ts)) from .lst upd_same (rl.same n2.sub))
    · exact none_got q
  · exact q.now w1 ra
theorem pe_vinsD {e : Expr} {f : VE} (h : PE X e (LE K W f)) : PE X e (LE K W (vInsD f)) := PE.imp h fun _ _ _ => le_insD
/-! ### for over an own list -/
def vLoopO (g : VG) (b : VS) (j : Nat) : Nat → Nat → S → R
  | 0, _, _ => none
  | n + 1, i, s => match s.m[j]? with
    | some (.lst ts) => match ts[i]? with
      | none => some (.nx, s)
      | some t => match g t s.ρ with
        | none => none
        | some ρ1 => match b ⟨ρ1, s.m⟩ with
          | some (.nx, s2) => vLoopO g b j n (i + 1) s2
          | some (.ct, s2) => vLoopO g b j n (i + 1) s2
          | some (.bk, s2) => some (.nx, s2)
          | x => x
    | _ => none
def gForO (g : VG) (b : VS) (ρ : List (Option Sl)) (o : Sl) (m : List MO) : R := match o with
  | .own j => vLoopO g b j 1000 0 ⟨ρ, m⟩
  | _ => none
def vForO (f : VE) (g : VG) (b : VS) : VS := fun s => bS s.ρ (f s) fun o m => gForO g b s.ρ o m
theorem ps_vforO {tg iter : Expr} {body : List Stmt} {f : VE} {g : VG} {b : VS} {pos : Pos} (hp : PassesOwn (model X.prog X.w) X.A X.env X.xe) (hc : X.calm = true) (hi : PE X iter (LE X.K W f)) {L : List Nat} (hg : PG X tg (LG X.K L g)) (hb : PSs X body (LS X.K W b)) (hs : ∀ x, foldedSetIterable iter X.env x = pure x := by intro _; rfl) :
    PS X (.For tg iter body [] pos) (LS X.K W (vForO f g b)) := PS.imp (ps_for hp hc (pi_seq hi) hg hb hs) fun D σ H ⟨F, A, ρ, m, w, r⟩ =>
  ⟨F, A, ρ, m, w, (Ran.bS (rS X.K) r).mono fun x H1 ⟨F1, A1, m1, o, n1, w1, ro, q⟩ => by
    unfold gForO at q
    split at q
    · rename_i j
      obtain ⟨a, ea, rfl⟩ := ro
      have first : ∃ ts, m1[j]? = some (.lst ts) := by
        obtain ⟨_, _, z, _⟩ := q
        unfold vLoopO at z
        simp only at z
        split at z
        · exact ⟨_, by assumption⟩
        · cases z
      obtain ⟨ts0, em0⟩ := first
      obtain ⟨fa0, xs0, eh0, rl0⟩ := w1.os.obj j a _ ea em0
      refine ⟨a, rfl, .inl ⟨⟨xs0, SqL.of eh0⟩, fun i k τ G => ∃ F' A' ρ' m', Nxt F1 A1 H1 F' A' G ∧ Wd X.K F' A' ρ' m' τ G ∧ Ran X.K W F' A' G D (vLoopO g b j k i ⟨ρ', m'⟩), ⟨1000, F1, A1, ρ, m1, Nxt.refl, w1, q⟩, ?_⟩⟩
      rintro i k τ G ⟨F', A', ρ', m', n', w', q'⟩
      cases k with
      | zero => exact none_ran q'
      | succ k =>
        unfold vLoopO at q'
        simp only at q'
        split at q'
        · rename_i ts em
          have ea' := pre_get n'.pre ea
          obtain ⟨fa, xs, eh, rl⟩ := w'.os.obj j a _ ea' em
          have sq : SqL X.K G a xs := SqL.of eh
          split at q'
          · rename_i et
            refine .inl ⟨⟨xs, sq, ?_⟩, q'.nx w'⟩
            rw [rl.length]
            exact List.getElem?_eq_none_iff.mp et
          · rename_i t et
            obtain ⟨v, ev, rv⟩ := rl.get et
            refine .inr ⟨⟨xs, v, sq, ev⟩, fun τ2 G2 => ∃ F2 A2 ρ2 m2, Nxt F1 A1 H1 F2 A2 G2 ∧ Wd X.K F2 A2 ρ2 m2 τ2 G2 ∧ Ran X.K W F2 A2 G2 D (vLoopO g b j k (i + 1) ⟨ρ2, m2⟩), fun τ2 G2 ⟨F2, A2, ρ2, m2, n2, w2, q2⟩ => ⟨k, Nat.lt_succ_self k, F2, A2, ρ2, m2, n2, w2, q2⟩, fun x G3 y => ?_⟩
            obtain ⟨rfl, y⟩ := y
            have ex := y xs sq
            rw [ev] at ex
            cases ex
            match eg : g t ρ', q' with
            | none, q' => obtain ⟨_, _, z, _⟩ := q'; cases z
            | some ρ1, q' =>
              refine ⟨F', A', ρ', m', t, ρ1, w', rv, eg, fun σ' w4 _ => ?_⟩
              refine ⟨F', A', ρ1, m', w4, ?_⟩
              match eb : b ⟨ρ1, m'⟩, q' with
              | none, q3 => obtain ⟨_, _, z, _⟩ := q3; simp only [eb] at z; cases z
              | some (.nx, s2), q3 => exact ⟨_, _, rfl, fun F5 A5 σ5 H5 n5 w5 => ⟨F5, A5, s2.ρ, s2.m, n'.trans n5, w5, by simp only [eb] at q3; exact q3.later n5⟩⟩
              | some (.ct, s2), q3 => exact ⟨_, _, rfl, fun F5 A5 σ5 H5 n5 w5 => ⟨F5, A5, s2.ρ, s2.m, n'.trans n5, w5, by simp only [eb] at q3; exact q3.later n5⟩⟩
              | some (.bk, s2), q3 =>
                simp only [eb] at q3
                obtain ⟨_, _, z, h⟩ := q3
                cases z
                exact ⟨_, _, rfl, h⟩
              | some (.rt r, s2), q3 =>
                simp only [eb] at q3
                obtain ⟨_, _, z, h⟩ := q3
                cases z
                exact ⟨_, _, rfl, h⟩
              | some (.ex C fs, s2), q3 =>
                simp only [eb] at q3
                obtain ⟨_, _, z, h⟩ := q3
                cases z
                exact ⟨_, _, rfl, h⟩
        · exact none_ran q'
    · exact none_ran q⟩
/-! ### xs[i] += e -/
def rGetL (K : PySem.W.Frag) : V → V → Hp → VK → Prop := fun o i H Q => ∃ p xs k v, o = .ref p ∧ i = .int k ∧ SqL K H p xs ∧ 0 ≤ k ∧ atI xs k = some v ∧ Q v H
theorem get_list : PGet X (rGetL X.K) := by
  intro pins s σ H o i ov iv Q I ro ri h
  obtain ⟨p, xs, k, z, rfl, rfl, hq, hk, he, q⟩ := h
  cases ro
  obtain ⟨t, rfl⟩ := ri
  obtain ⟨its, r, pl, hz⟩ := I.list hq
  obtain ⟨j, h1, h2, h3, h4, h5⟩ := atI_get he
  obtain ⟨w, ew, rw'⟩ := r.get h2
  have hl := r.length
  have hn := line63
  have hj : k.toNat = j := by
    rw [seqIndex_of hk h5] at h1
    exact Option.some.inj h1
  exact wpAny_getItem_list pl.isList hk (by omega) (by rw [hj]; simpa using ew) ⟨z, H, I, rw', q⟩
def lstAt (o k : Sl) (m : List MO) : Option (Nat × Nat × Int) := match o, k with
  | .own j, .val (.int i) => match m[j]? with
    | some (.lst ts) => if 0 ≤ i then match ts[i.toNat]? with
      | some (.int a) => some (j, i.toNat, a)
      | _ => none
      else none
    | _ => none
  | _, _ => none
def gAugI (ρ : List (Option Sl)) (j p : Nat) (a : Int) (y : Sl) (m : List MO) : R := match y with
  | .val (.int b) => match m[j]? with
    | some (.lst ts) => if p < ts.length then some (.nx, ⟨ρ, m.set j (.lst (ts.set p (.int (a + b))))⟩) else none
    | _ => none
  | _ => none
def vAugI (fo fi fv : VE) : VS := fun s => bS s.ρ (fo s) fun o m1 => bS s.ρ (fi ⟨s.ρ, m1⟩) fun k m2 => match lstAt o k m2 with
  | some (j, p, a) => bS s.ρ (fv ⟨s.ρ, m2⟩) fun y m3 => gAugI s.ρ j p a y m3
  | none => none
theorem lstAt_at {o k : Sl} {m : List MO} {j p : Nat} {b : Int} {F : Hp} {A : List Addr} {H : Hp} {x z : V} (w : Objs K F A m H) (ro : RpS K F A x o) (rk : RpS K F A z k) (e : lstAt o k m = some (j, p, b)) :
    ∃ a xs i, x = .ref a ∧ z = .int i ∧ A[j]? = some a ∧ H a = some (.lst xs) ∧ 0 ≤ i ∧ i.toNat = p ∧ xs[p]? = some (.int b) := by
  unfold lstAt at e
  split at e
  · rename_i j' i
    split at e
    · rename_i ts em
      split at e
      · rename_i h0
        split at e
        · rename_i a' et
          cases e
          obtain ⟨a, ea, rfl⟩ := ro
          obtain ⟨fa, xs, eh, rl⟩ := w.obj _ a _ ea em
          obtain ⟨v, ev, rv⟩ := rl.get et
          cases rv
          cases rk
          exact ⟨a, xs, i, rfl, rfl, ea, eh, h0, rfl, ev⟩
        · cases e
      · cases e
    · cases e
  · cases e
theorem ixN_nat {n p : Nat} {i : Int} (h0 : 0 ≤ i) (e : i.toNat = p) (h : p < n) : ixN n i = some p := by
  unfold ixN
  rw [if_pos h0, if_pos (by omega), e]
theorem ps_vaugI {o i value : Expr} {fo fi fv : VE} {tpos pos : Pos} (ho : PE X o (LE X.K W fo)) (hi : PE X i (LE X.K W fi)) (hv : PE X value (LE X.K W fv))
    (ha : ∀ ov iv new, augStore i ov iv new = (do holding [new, ov, iv] (setItem ov iv new); release [new, ov, iv] []; pure .next) := by intros; rfl) : PS X (.AugAssign (.Subscript o i tpos) .Add value pos) (LS X.K W (vAugI fo fi fv)) := PS.imp (ps_augS ho hi get_list hv ip_add set_list ha) fun D σ H ⟨F, A, ρ, m, w, r⟩ =>
  ⟨F, A, ρ, m, w, (Ran.bS (rS X.K) r).mono fun x H1 ⟨F1, A1, m1, s, n1, w1, rx, q1⟩ => ⟨F1, A1, ρ, m1, w1, (Ran.bS (rS X.K) q1).mono fun z H2 ⟨F2, A2, m2, k, n2, w2, rz, q2⟩ => by
    split at q2
    · rename_i j p b e
      obtain ⟨a, xs, i, rfl, rfl, ea, eh, h0, hp, ev⟩ := lstAt_at w2.os (rx.next n2.sub n2.pre) rz e
      have hl : p < xs.length := (List.getElem?_eq_some_iff.mp ev).1
      refine ⟨a, xs, i, .int b, rfl, rfl, SqL.of eh, h0, by unfold atI; rw [ixN_nat h0 hp hl]; exact ev, F2, A2, ρ, m2, w2, (Ran.bS (rS X.K) q2).mono fun y H3 ⟨F3, A3, m3, t, n3, w3, ry, q3⟩ => ?_⟩
      unfold gAugI at q3
      split at q3
      · rename_i b2
        split at q3
        · rename_i ts em
          split at q3
          · rename_i hh
            cases ry
            have ea3 := pre_get n3.pre ea
            obtain ⟨fa, xs3, eh3, rl⟩ := w3.os.obj j a _ ea3 em
            refine ⟨b, b2, rfl, rfl, a, xs3, i, p, rfl, rfl, eh3, ixN_nat h0 hp (by rw [rl.length]; exact hh), ?_⟩
            have wr := w3.os.write ea3 fa (u := .lst (xs3.set p (.int (b + b2)))) (o := .lst (ts.set p (.int (b + b2)))) ⟨fa, _, upd_same, rl.set p (.int _)⟩
            exact (q3.later (Nxt.write (List.mem_of_getElem? ea3))).nx (w3.of (Same.refl _) (List.prefix_refl _) wr)
          · exact none_ran q3
        · exact none_ran q3
      · exact none_ran q3
    · exact none_ran q2⟩⟩
/-! ### constant dicts by texts -/
structure KDv (K : PySem.W.Frag) (w : World) (mg : Str → Option Value) (x : Str) (tab : Str → Option T) where
  d : Addr
  m : mg x = some (.ref d)
  r : ∀ z t, tab z = some t → ∃ v, KDct K w d z v ∧ ∀ F, Rp K F v t
def gKd (tab : Str → Option T) (s : Sl) (m : List MO) : M Sl := match s with
  | .val (.str z) => match tab z with
    | some t => rM (.val t) m
    | none => none
  | _ => none
def vKd (tab : Str → Option T) (f : VE) : VE := fun s => bM (f s) (gKd tab)
theorem pe_vkd {x : Str} {tab : Str → Option T} {f : VE} {i : Expr} {p pos : Pos} (D : KDv X.K X.w X.mg x tab) (hg : Gl X x) (hi : PE X i (LE X.K W f)) (hs : PlainIx i) (hd : (x == ("__debug__" : Str)) = false := by decide) : PE X (.Subscript (.Name x p) i pos) (LE X.K W (vKd tab f)) := PE.imp (pe_ix ix_kdict (pe_glob (v := .ref D.d) hg D.m rfl hd) hi hs) fun σ H Q ⟨F, A, ρ, m, w, g⟩ =>
  (show LE X.K W f σ H (fun y H2 => rIxD X.K X.w (.ref D.d) y H2 Q) from ⟨F, A, ρ, m, w, (Got.bind (R1 := rS X.K) g).mono fun y H1 ⟨F1, A1, m1, s, n1, w1, ry, q⟩ => by
    unfold gKd at q
    split at q
    · rename_i z
      split at q
      · rename_i t et
        obtain ⟨v, kd, rp⟩ := D.r z t et
        cases ry
        exact ⟨D.d, z, v, rfl, rfl, kd, q.now w1 (show RpS X.K F1 A1 v (.val t) from rp F1)⟩
      · exact none_got q
    · exact none_got q⟩)
structure KDi (K : PySem.W.Frag) (w : World) (mg : Str → Option Value) (x : Str) (tab : Str → Option Bool) where
  d : Addr
  es : Array DictEntry
  n : Nat
  m : mg x = some (.ref d)
  kd : KDict K w d es n
  r : ∀ z b, tab z = some b → ∃ o, PySem.W.nsIn K d z = some o ∧ o.isSome = b
end
end Vs
end
section
/-! Vs30: defs with defaults; in a constant dict; a call of a local def; C(k = ..); x, *rest = xs. -/
namespace Vs
open PySem PySem.Spec PyProof.Rows L2
variable [WW]
section
variable {P : Program} {w : World} {K : PySem.W.Frag} {mg : Str → Option Value} {base : Heap}
theorem okVD {x qual : Str} {st : Stmt} {f : Addr} {fd : FuncData} {dvs : List V} {N ps : List Str} {k : Nat} {b : VS} (F : FunD K x qual (defArgs st) (defBody st) (defScope st) dvs [] f fd) (S : FnScope N ps (defScope st))
    (hb : ∀ (cdv : Value) (A : Around) (outer : List Env) (s : Shared) (H : Hp) (E : XK), Room k (A.deeper (envOfC qual (defScope st) s.heap.objs.size f cdv)) →
      PSs (cxOf (L2.CX P w) P w K mg base N qual (defScope st) f cdv A outer s H E) (defBody st) (LS K (fun cls d _ H => E cls d H) b)) : FnOk P w K mg base (L2.CX P w) (k + 1) f fd ps (SpV K ps.length (vDef N.length b)) := by
  refine F.ok S (fun vs H Q E h => h.1) (fun cdv A outer s H vs Q E hr h => ⟨_, hb cdv A outer s H E hr, ?_⟩)
  obtain ⟨hl, F0, A0, args, m, o, r, out, m', ev, hq⟩ := h
  unfold vDef at ev
  refine ⟨F0, A0, _, m, wd_start (N := N) o r, ?_⟩
  split at ev
  · rename_i rr s' eb
    cases ev
    exact ⟨_, _, eb, fun F' A' σ' v H' n w' rv => hq F' A' v H' n w'.os rv⟩
  · rename_i s' eb
    cases ev
    exact ⟨_, _, eb, fun F' A' σ' H' n w' => hq F' A' .non H' n w'.os (show Rp K F' .non .non from .non)⟩
  · rename_i C fs s' eb
    cases ev
    exact ⟨_, _, eb, fun F' A' σ' d ws H' n w' rf hd => hq F' A' d ws H' n w'.os rf hd⟩
  · cases ev
end
section
variable {K : PySem.W.Frag} {W : WX} {X : Cx}
/-! ### in a constant dict -/
def gKi (neg : Bool) (tab : Str → Option Bool) (a : Sl) (m : List MO) : M Sl := match a with
  | .val (.str z) => match tab z with
    | some b => rM (.val (.bl (if neg then !b else b))) m
    | none => none
  | _ => none
def vKi (neg : Bool) (tab : Str → Option Bool) (f : VE) : VE := fun s => bM (f s) (gKi neg tab)
theorem pe_vinKd {x : Str} {tab : Str → Option Bool} {f : VE} {a : Expr} {p pos : Pos} (D : KDi X.K X.w X.mg x tab) (hg : Gl X x) (hm : behindInMarks .In (.Name x p) = false) (ha : PE X a (LE X.K W f)) (hd : (x == ("__debug__" : Str)) = false := by decide) : PE X (.Compare a [.In] [.Name x p] pos) (LE X.K W (vKi false tab f)) := PE.imp (pe_cmpR (op_in_kd D.kd) ha (pe_glob (v := .ref D.d) hg D.m rfl hd) hm) fun σ H Q ⟨F, A, ρ, m, w, g⟩ =>
  ⟨F, A, ρ, m, w, (Got.bind (R1 := rS X.K) g).mono fun y H1 ⟨F1, A1, m1, s, n1, w1, ry, q⟩ => by
    unfold gKi at q
    split at q
    · rename_i z
      split at q
      · rename_i b eb
        obtain ⟨o, e1, e2⟩ := D.r z b eb
        cases ry
        refine ⟨z, o, rfl, rfl, e1, ?_⟩
        rw [e2]
        exact q.now w1 (show RpS X.K F1 A1 (.bl b) (.val (.bl b)) from .bl b)
      · exact none_got q
    · exact none_got q⟩
theorem pt_vinKd {x : Str} {tab : Str → Option Bool} {f : VE} {a : Expr} {p pos : Pos} (D : KDi X.K X.w X.mg x tab) (hg : Gl X x) (hm : behindInMarks .In (.Name x p) = false) (ha : PE X a (LE X.K W f)) (hd : (x == ("__debug__" : Str)) = false := by decide) : PT X (.Compare a [.In] [.Name x p] pos) (LT X.K W (vTest (vKi false tab f))) := PT.imp (pt_cmpR (op_in_kd D.kd) ha (pe_glob (v := .ref D.d) hg D.m rfl hd) hm) fun σ H Q h => by
  obtain ⟨F, A, ρ, m, w, g⟩ := lt_test h
  refine ⟨F, A, ρ, m, w, (Got.bind (R1 := rS X.K) g).mono fun y H1 ⟨F1, A1, m1, s, n1, w1, ry, q⟩ => ?_⟩
  unfold gKi at q
  split at q
  · rename_i z
    split at q
    · rename_i b eb
      obtain ⟨o, e1, e2⟩ := D.r z b eb
      cases ry
      refine ⟨z, o, rfl, rfl, e1, ?_⟩
      rw [e2]
      exact q.now w1 (show RpS X.K F1 A1 (.bl b) (.val (.bl b)) from .bl b)
    · exact none_got q
  · exact none_got q
/-! ### a local that holds a def -/
structure DT (P : Program) (w : World) (K : PySem.W.Frag) (mg : Str → Option Value) (base : Heap) (kk np : Nat) (f : Addr) (vf : VF) : Prop where
  ex : ∃ (k : Nat) (fd : FuncData) (ps : List Str), k ≤ kk ∧ FnOk P w K mg base (L2.CX P w) k f fd ps (SpV K np vf) ∧ PySem.W.keepIn K (.ref f) = true ∧ Binds K fd ps []
def vCallT (i : Nat) (tb : Addr → Option VF) (fa : VA) : VE := fun s => match s.ρ[i]? with
  | some (some (.val (.cst (.ref f)))) => match tb f with
    | some vf => bM (fa s) fun ss m => callM vf ss m
    | none => none
  | _ => none
theorem pe_vcallT {i np kk : Nat} {tb : Addr → Option VF} {fa : VA} {x : Str} {e : Expr} {es : List Expr} {p pos : Pos} (hT : ∀ f vf, tb f = some vf → DT X.prog X.w X.K X.mg X.base kk np f vf) (hr : Room kk X.A) (hN : X.N[i]? = some x) (hv : Vis X.env.scope x) (tk : Takes X W) (ha : PA X (e :: es) (LA X.K W fa)) (hn : ∀ s ss m, fa s = some (.ok ss, m) → ss.length = np)
    (hdb : (x == ("__debug__" : Str)) = false := by decide) (hcd : (x == ("__classdict__" : Str)) = false := by decide) (he : starEach (e :: es) X.env = (false, eval e X.env) :: starEach es X.env := by rfl) (hpl : (backTo pos (starEach es X.env)).any (·.1) = false := by rfl) :
    PE X (.Call (.Name x p) (e :: es) [] pos) (LE X.K W (vCallT i tb fa)) := by
  refine ⟨fun pins s σ H Q I ⟨F, A, ρ, m, w, g⟩ => ?_⟩
  unfold vCallT at g
  split at g
  · rename_i f ef
    split at g
    · rename_i vf ev
      obtain ⟨k, fd, ps, hk, G, kp, hb⟩ := (hT f vf ev).ex
      obtain ⟨v, es, rv⟩ := w.slot i _ ef
      cases rv
      refine wpAny_Call_Name_kw (thn ((pe_var (pos := p) hN hv hdb hcd).run pins s σ H (fun v H1 => v = .ref f ∧ H1 = H) I ⟨.ref f, es, rfl, rfl⟩) fun u s1 ⟨v, H1, I1, r1, q1⟩ => ?_)
      obtain ⟨rfl, rfl⟩ := q1
      cases r1
      have h2 : tCallS (SpV X.K np vf) (WE W) (LA X.K W fa) σ H1 Q := le_call hn ⟨F, A, ρ, m, w, g⟩
      refine PySem.W.callWith_K (h₀ := X.base) I.ok.mod.kin kp (thn (ha.run pos pins s1 σ _ _ I1 h2) fun us s2 ⟨vs, H2, I2, r, q⟩ => ⟨I2.kIn, ?_⟩) he hpl
      exact run_fnS G (hr.mono hk) hb (passAt tk σ) I2 r q
    · exact none_got g
  · exact none_got g
/-! ### C(k = ..), nothing is raised in making -/
def noEx (vf : VF) : VF := fun as m => match vf as m with
  | some (.ok r, m') => some (.ok r, m')
  | _ => none
theorem SpV.noEx {np : Nat} {vf : VF} {vs : List V} {H : Hp} {Q : VK} {E E' : XK} (h : SpV K np (noEx vf) vs H Q E) : SpV K np vf vs H Q E' := by
  obtain ⟨hl, F, A, args, m, o, r, out, m', e, q⟩ := h
  refine ⟨hl, F, A, args, m, o, r, ?_⟩
  unfold Vs.noEx at e
  split at e
  · rename_i r' m2 e2
    cases e
    exact ⟨_, _, e2, q⟩
  · cases e
theorem le_makeK {np nk : Nat} {C : Addr} {vf : VF} {fa : VA} {E' : XK} (hn : ∀ s ss m, fa s = some (.ok ss, m) → ss.length + 1 = np) (hk : nk + 1 = np) {σ : L2.St} {H : Hp} {Q : VK} (h : LE K W (vMake C (noEx vf) fa) σ H Q) :
    LA K W fa σ H fun zs H2 => ([] : List V).length = 0 ∧ zs.length = nk ∧ ∀ x dx, H2 x = none → H2 dx = none → dx ≠ x → SpV K np vf (.ref x :: zs) (upd (upd H2 dx (.own x)) x (.ins C dx [])) (fun v H3 => v = .non ∧ Q (.ref x) H3) E' := by
  obtain ⟨F, A, ρ, m, w, g⟩ := h
  refine ⟨F, A, ρ, m, w, ?_⟩
  match e : fa ⟨ρ, m⟩, g with
  | none, g => unfold vMake at g; rw [e] at g; exact none_got g
  | some (.ex D fs, m1), g =>
    unfold vMake at g
    rw [e] at g
    obtain ⟨_, _, z, g⟩ := g
    cases z
    exact ⟨_, _, rfl, g⟩
  | some (.ok ss, m1), g =>
    unfold vMake at g
    rw [e] at g
    have hl := hn _ _ _ e
    refine ⟨_, _, rfl, fun F1 A1 vs H1 n1 w1 rs => ⟨rfl, by rw [RpSs.length rs]; omega, fun x dx nx nd ne => ?_⟩⟩
    exact SpV.noEx (make_go (by rw [RpSs.length rs]; exact hl) w1 rs (Got.later g n1) x dx nx nd ne)
theorem pk_vnil : PK X [] (LA X.K W vNil) := ⟨fun pos pins s σ H Q I ⟨F, A, ρ, m, w, g⟩ => pk_nil.run pos pins s σ H Q I (Got.now (R2 := fun F' A' _ vs ss => RpSs X.K F' A' vs ss) g w .nil)⟩
theorem pk_vcons {e : Expr} {kws : List Keyword} {f : VE} {g : VA} {nm : Option Str} {kpos : Pos} (he : PE X e (LE X.K W f)) (hr : PK X kws (LA X.K W g)) : PK X (⟨nm, e, kpos⟩ :: kws) (LA X.K W (vCons f g)) := ⟨fun pos pins s σ H Q I ⟨F, A, ρ, m, w, got⟩ => (pk_cons he hr).run pos pins s σ H Q I
  ⟨F, A, ρ, m, w, (Got.bind (R1 := rS X.K) got).mono fun x H1 ⟨F1, A1, m1, a, n1, w1, ra, g1⟩ =>
    ⟨F1, A1, ρ, m1, w1, (Got.bind (R1 := fun F' A' _ vs ss => RpSs X.K F' A' vs ss) g1).mono fun xs H2 ⟨F2, A2, m2, as, n2, w2, rs, g2⟩ => g2.now w2 (.cons (ra.next n2.sub n2.pre) rs)⟩⟩⟩
theorem pe_vmakeK {np k : Nat} {C f : Addr} {fd : FuncData} {ps ks : List Str} {vf : VF} {fa : VA} {x : Str} {kws : List Keyword} {p pos : Pos} {g : List Value → List Value → List Value} (M : Mk X.K C f) (F : FnOk X.prog X.w X.K X.mg X.base (L2.CX X.prog X.w) k f fd ps (SpV X.K np vf)) (hr : Room (k + 1) X.A) (hg : Gl X x) (hm : X.mg x = some (.ref C)) (hb : KBn X.K fd ps 1 ks g fun vs zs => vs ++ zs)
    (hx : Passes (L2.CX X.prog X.w) X fun _ _ _ => False) (hkw : PK X kws (LA X.K W fa)) (hn : ∀ s ss m, fa s = some (.ok ss, m) → ss.length + 1 = np) (hk : ks.length + 1 = np)
    (hall : (backToKw pos (keywordEach kws X.env)).all (·.1.isSome) = true := by rfl) (hks : (backToKw pos (keywordEach kws X.env)).filterMap (·.1) = ks := by rfl) (hdb : (x == ("__debug__" : Str)) = false := by decide)
    (hpl : ((backTo pos (starEach [] X.env)).any (·.1) || (backToKw pos (keywordEach kws X.env)).any (·.1.isNone)) = false := by rfl) :
    PE X (.Call (.Name x p) [] kws pos) (LE X.K W (vMake C (noEx vf) fa)) := PE.imp (pe_makeK0 M F hr hg hm hb hx hkw hall hks hdb hpl) fun _ _ _ h => le_makeK hn hk h
end
/-! ### x, *rest = xs -/
section
open PySem.W PyProof.Rows
theorem un_star {prog : Program} {w : World} {A : Around} {E : Value → Shared → Prop} {s : Shared} {l : Addr} {items : Array Value} {Q : List Value → Shared → Prop} {u : Value} {rest : List Value} (hl : s.heap.IsList l items) (hh : A.handled = none) (hi : items.toList = u :: rest) (hz : items.size ≤ sizeLine)
    (h : ∀ (h2 : Heap) (tk : Nat), (∀ b o, s.heap.get? b = some o → h2.get? b = some o) → Q [u, .ref h2.objs.size] { s with heap := h2.push { cls := .type "list", data := .seq rest.toArray }, toks := tk }) : wpAny (model prog w) A (unpackItems (.ref l) 2 (some 1)) Q E s := by
  have hlt : l ≠ s.heap.objs.size := by obtain ⟨o, ho, _⟩ := hl; exact Nat.ne_of_lt (Heap.lt_size ho)
  have hsz : items.size = rest.length + 1 := by rw [← Array.length_toList, hi]; rfl
  unfold unpackItems
  refine wpAny_bind ?_
  unfold notIterableAtAll
  refine wpAny_bind (wpAny_specialOf hl.typeIs slot_list_iter.lookup ?_)
  refine wpAny_pure ?_
  simp only [Bool.false_eq_true, if_false]
  refine wpAny_bind (wpAny_holding (wpAny_pyIter_list hl ?_))
  refine wpAny_bind (wpAny_holding (kun_draw hlt 1 0 _ _ ⟨_, Heap.get?_push_size _ rfl, rfl, rfl⟩ (hl.push _) (by omega) fun h₁ hit₁ hs₁ => ?_))
  have hl₁ : h₁.IsList l items := (hl.push _).extBut hs₁.extBut hlt
  rw [Nat.zero_add] at hit₁
  have hit₁' := hit₁
  obtain ⟨oi, hoi, _⟩ := hit₁'
  have hl₁' := hl₁
  obtain ⟨ol, hol, _⟩ := hl₁'
  rw [List.drop_zero, hi]
  have et : List.take 1 (u :: rest) = [u] := rfl
  rw [et, if_neg (show ¬ (([u] : List Value).length < 1) by simp)]
  refine wpAny_bind (wpAny_holding (kun_collect (s := { s with heap := h₁ }) (T := "list_iterator") (.inr (.inr (.inl rfl))) (Walks.list (A := A.in1) hh s.heap.objs.size l hlt items) (fun j u st => st.1.typeIs) (k := 1) (by omega) ⟨hit₁, hl₁⟩ (Heap.lt_size hoi) (Heap.lt_size hol) (fun h₂ tk hk => ?_) hz))
  rw [hi]
  have ed : List.drop 1 (u :: rest) = rest := rfl
  rw [ed]
  show wpAny _ _ (if rest.length < 2 - 1 - 1 then _ else _) _ _ _
  rw [if_neg (by omega)]
  show wpAny _ _ (newList (rest.take (rest.length - (2 - 1 - 1))) >>= fun d => pure ([u] ++ [d] ++ rest.drop (rest.length - (2 - 1 - 1)))) _ _ _
  have e0 : rest.length - (2 - 1 - 1) = rest.length := by omega
  rw [e0, List.take_length, List.drop_length]
  refine wpAny_bind (wpAny_newList (wpAny_pure ?_) (by omega))
  refine h h₂ tk fun b o e => ?_
  have hb : b ≠ s.heap.objs.size := Nat.ne_of_lt (Heap.lt_size e)
  exact hk b o hb (hs₁.extBut b o hb (Heap.get?_push_of_some _ e))
end
section
variable {W : WX} {X : Cx}
def gStarU (K : PySem.W.Frag) (t : TGs) : TG := fun v σ H Q => ∃ a u rest, v = .ref a ∧ SqL K H a (u :: rest) ∧ ∀ p, H p = none → t [u, .ref p] σ (upd H p (.lst rest)) Q
theorem pg_starU {es es' : List Expr} {k : Nat} {t : TGs} {pos : Pos} (hc : X.calm = true) (h : PGs X es' t) (hsame : (assignEach es X.env).map (·.2) = (assignEach es' X.env).map (·.2) := by rfl)
    (hn : (assignEach es X.env).length = 2 := by rfl) (hst : (assignEach es X.env).findIdx? (·.1) = some 1 := by rfl) : PG X (.Tuple es k pos) (gStarU X.K t) := by
  refine ⟨fun pins s σ H v u Q I r hw => ?_⟩
  obtain ⟨a, x, rest, e1, hq, hw⟩ := hw
  subst e1
  cases r
  obtain ⟨its, rv, pl, hz⟩ := I.list hq
  have hl' : s.heap.IsList a its.toArray := by
    obtain ⟨o, m, e, c, d, q⟩ := pl
    exact ⟨o, e, c, m, q⟩
  cases rv with
  | cons r1 rr =>
    rename_i y us
    rw [PyProof.Rows.assign_Tuple]
    refine wpAny_bind (wpAny_standAt ?_)
    unfold unpack
    rw [hn, hst, hsame]
    refine wpAny_bind (wpAny_holding (un_star (u := y) (rest := us) hl' (I.ok.hd hc) rfl (by have hl := L2.Vals.length rr; simp at hz ⊢; omega) fun h2 tk hk => ?_))
    have I1 : Inv X pins σ H { s with heap := h2, toks := tk } := I.kept hk
    have hf : H h2.objs.size = none := I1.hok.fresh (Nat.le_refl _)
    have I2 : Inv X pins σ (upd H h2.objs.size (.lst rest)) { s with heap := h2.push { cls := .type "list", data := .seq us.toArray }, toks := tk } := I1.laid (t' := tk) (fun b u e => Heap.get?_push_of_some _ e) (Nat.le_refl _) ⟨by
      have hl := L2.Vals.length rr
      simp at hz
      omega, us, 0, rr, Heap.get?_push_size _ rfl⟩
    exact h.run pins _ σ _ _ _ Q I2 (.cons r1 (.cons (show RelV (V.ref h2.objs.size) (Value.ref h2.objs.size) from rfl) .nil)) (hw _ hf)
def gStar1 (i j : Nat) (ρ : List (Option Sl)) (s : Sl) (m : List MO) : R := match s with
  | .val (.lst (t :: r)) => some (.nx, ⟨(ρ.set i (some (.val t))).set j (some (.val (.lst r))), m⟩)
  | _ => none
def vStar1 (i j : Nat) (f : VE) : VS := fun s => bS s.ρ (f s) (gStar1 i j s.ρ)
theorem ps_vstar1 {i j k : Nat} {x y : Str} {e : Expr} {f : VE} {px py p2 p3 pos : Pos} (hc : X.calm = true) (hN : X.N.Nodup) (hi : X.N[i]? = some x) (hj : X.N[j]? = some y) (hx : Loc X.env.scope x) (hy : Loc X.env.scope y) (he : PE X e (LE X.K W f))
    (hs : swapsWithSole [.Tuple [.Name x px, .Starred (.Name y py) p2] k p3] e pos.line X.env = pure false := by rfl) (hw : swappedStores [.Tuple [.Name x px, .Starred (.Name y py) p2] k p3] e X.env = pure none := by rfl)
    (hfx : X.fn x = true ∨ X.env.scope.names.lookup x = some .local := by first | exact .inl rfl | exact .inr rfl) (hfy : X.fn y = true ∨ X.env.scope.names.lookup y = some .local := by first | exact .inl rfl | exact .inr rfl) :
    PS X (.Assign [.Tuple [.Name x px, .Starred (.Name y py) p2] k p3] e pos) (LS X.K W (vStar1 i j f)) := PS.imp (ps_asg he (pg_starU hc (pgs_cons (pg_name (pos := px) hN hi hx hfx) (pgs_cons (pg_name (pos := py) hN hj hy hfy) pgs_nil))) hs hw) fun D σ H ⟨F, A, ρ, m, w, r⟩ =>
  ⟨F, A, ρ, m, w, (Ran.bS (rS X.K) r).mono fun x H1 ⟨F1, A1, m1, s, n1, w1, rx, q⟩ => by
    unfold gStar1 at q
    split at q
    · rename_i t r
      cases rx with
      | lst h rl =>
        cases rl with
        | @cons v vs _ _ rv rr =>
          refine ⟨_, _, _, rfl, SqL.of (w1.os.sub _ _ h), fun p np => ?_⟩
          have o2 := w1.os.new (o := .lst vs) np
          have n2 := Nxt.new (o := .lst vs) w1.os np
          have w2 := w1.of n2.sub (List.prefix_refl _) o2
          refine ⟨_, _, rfl, ⟨_, _, rfl, ⟨rfl, ?_⟩⟩⟩
          exact (q.later n2).nx ((w2.set (r := .val t) (rv.same n2.sub)).set (r := .val (.lst r)) (.lst upd_same (rr.same n2.sub)))
    · exact none_ran q⟩
end
end Vs
end
section
/-! Vs31: a list times an int, a text times an int; what is never reached; records of facts. -/
namespace Vs
open PySem PySem.Spec PyProof.Rows L2
variable [WW]
section
variable {K : PySem.W.Frag} {W : WX} {X : Cx}
def gRepL (a b : Sl) (m : List MO) : M (List T) := match b with
  | .val (.int k) => match lstOf a m with
    | some ts => if (0 ≤ k ∧ k ≤ 1000) ∧ (List.replicate k.toNat ts).flatten.length ≤ SZ then rM (List.replicate k.toNat ts).flatten m else none
    | none => none
  | _ => none
theorem RpL.repl {F : Hp} {xs : List V} {ts : List T} (r : RpL K F xs ts) : ∀ n, RpL K F (List.replicate n xs).flatten (List.replicate n ts).flatten
  | 0 => .nil
  | n + 1 => by rw [List.replicate_succ, List.replicate_succ, List.flatten_cons, List.flatten_cons]; exact r.append (RpL.repl r n)
theorem ov_repL : OpVN K rRep gRepL := by
  intro W F0 F A0 A ρ m σ H0 H x y a b Q n w ra rb g
  unfold gRepL at g
  split at g
  · rename_i k
    split at g
    · rename_i ts e1
      split at g
      · rename_i h
        obtain ⟨p, xs, rfl, h1, r1⟩ := lstOf_at w.os ra e1
        cases rb
        have r2 := r1.repl k.toNat
        refine ⟨p, k, xs, rfl, rfl, h1, by omega, by omega, ?_, fun l nl => new_list n g w nl r2 h.2⟩
        have hl := r2.length
        rw [PyProof.Rows.lm_len_rep_flat] at hl
        rw [Nat.mul_comm, hl]
        exact sz_le h.2
      · exact none_got g
    · exact none_got g
  · exact none_got g
theorem pe_vrepL {a b : Expr} {fa fb : VE} {pos : Pos} (ha : PE X a (LE X.K W fa)) (hb : PE X b (LE X.K W fb)) : PE X (.BinOp a .Mult b pos) (LN X.K W (vBinN gRepL fa fb)) := pe_vopN op_rep ov_repL ha hb
instance (x : Str) (n : Int) : Decidable (MulOk x n) := by unfold MulOk; infer_instance
def rRepS : R2 := fun x y H Q => ∃ z n, x = .str z ∧ y = .int n ∧ MulOk z n ∧ Q (.str (Txt.mul z n)) H
theorem op_repS : OpR X (binaryOp .Mult) rRepS := by
  intro pins s σ H x y v u Q I rx ry h
  obtain ⟨z, n, rfl, rfl, ok, q⟩ := h
  obtain ⟨t, rfl⟩ := rx
  obtain ⟨t', rfl⟩ := ry
  exact PySem.SB.mul ok fun t2 k => ⟨.str (Txt.mul z n), H, I.tok _, ⟨_, rfl⟩, q⟩
def gRepS : Sl → Sl → List MO → M Sl
  | .val (.str x), .val (.int n), m => if MulOk x n then rM (.val (.str (Txt.mul x n))) m else none
  | _, _, _ => none
theorem ov_repS : OpV K rRepS gRepS := by
  intro W F A ρ m σ H x y a b Q w ra rb g
  unfold gRepS at g
  split at g
  · split at g
    · rename_i h
      cases ra; cases rb
      exact ⟨_, _, rfl, rfl, h, g.now w (.str _)⟩
    · exact none_got g
  · exact none_got g
theorem pe_vrepS {a b : Expr} {fa fb : VE} {pos : Pos} (ha : PE X a (LE X.K W fa)) (hb : PE X b (LE X.K W fb)) : PE X (.BinOp a .Mult b pos) (LE X.K W (vBin gRepS fa fb)) := pe_vop op_repS ov_repS ha hb
theorem pe_vgt {a b : Expr} {fa fb : VE} {pos : Pos} (ha : PE X a (LE X.K W fa)) (hb : PE X b (LE X.K W fb)) : PE X (.Compare a [.Gt] [b] pos) (LE X.K W (vBin (gInt fun i j => .bl (decide (j < i))) fa fb)) := pe_vcmp op_gt (ov_int fun _ _ _ => .bl _) ha hb (nobehind _ (by decide) (by decide))
theorem pe_vnotInF {a b : Expr} {fa fb : VE} {pos : Pos} (hm : behindInMarks .NotIn b = false) (ha : PE X a (LE X.K W fa)) (hb : PE X b (LE X.K W fb)) : PE X (.Compare a [.NotIn] [b] pos) (LE X.K W (vBin (gInFlat true) fa fb)) := pe_vcmp op_notIn_seq ov_inFlat ha hb hm
/-- a body of which nothing is said -/
theorem pss_none {sts : List Stmt} : PSs X sts (LS K W fun _ => none) := ⟨fun pins s σ H D I h => by obtain ⟨_, _, _, _, _, r⟩ := h; exact none_ran r⟩
end
/-- a class that is made by keywords, in the order of its parameters -/
structure MIK (P : Program) (w : World) (K : PySem.W.Frag) (mg : Str → Option Value) (base : Heap) (k np : Nat) (x : Str) (C : Addr) (vf : VF) (ks : List Str) where
  f : Addr
  fd : FuncData
  ps : List Str
  gg : List Value → List Value → List Value
  mks : Mk K C f
  g : FnOk P w K mg base (L2.CX P w) k f fd ps (SpV K np vf)
  kb : KBn K fd ps 1 ks gg fun vs zs => vs ++ zs
  m : mg x = some (.ref C)
end Vs
end
section
/-! Vs32: what the facts of a law's end are made of. -/
namespace Vs
open PySem PySem.Spec PyProof.Rows L2
variable [WW]
theorem ma0 {p : Addr → Prop} : ∀ C ∈ ([] : List Addr), p C := fun _ h => nomatch h
theorem ma1 {p : Addr → Prop} {a : Addr} {l : List Addr} (h : p a) (r : ∀ C ∈ l, p C) : ∀ C ∈ a :: l, p C := List.forall_mem_cons.mpr ⟨h, r⟩
section
variable {K : PySem.W.Frag}
theorem fldOk_of {f : Str} {l : List Addr} (h : ∀ C ∈ l, Cls K C ∧ NoAttr K C f) : FldOk K f (fun C => decide (C ∈ l)) := fun C e => h C (of_decide_eq_true e)
theorem own_of {P : Program} {w : World} {mg : Str → Option Value} {base : Heap} {gs : Addr} {l : List Addr} (h : ∀ C ∈ l, ∃ ge, Own.OwnC K C gs ge) : ∀ C, (fun C => decide (C ∈ l)) C = true → ∃ ge, Own.OwnC K C gs ge := fun C e => h C (of_decide_eq_true e)
theorem kit_own {t : Value} {C : Addr} {b : Bool} (h1 : PySem.W.isClsIn K C = true) (h2 : PySem.W.typeIn K (.ref C) = some (.type "type")) (h3 : PySem.W.subIn K t (.ref C) = some b) (h0 : (t == .ref C) = false ∨ b = true) : PySem.W.kitOne K t (.ref C) = some b := by
  unfold PySem.W.kitOne
  split
  · rename_i e
    rcases h0 with h0 | h0
    · rw [h0] at e; cases e
    · rw [h0]
  · have e : ((PySem.W.clsIn K C).isSome && PySem.W.typeIn K (.ref C) == some (.type "type")) = true := by
      have h1' : (PySem.W.clsIn K C).isSome = true := h1
      rw [h1', h2]; rfl
    show (if ((PySem.W.clsIn K C).isSome && PySem.W.typeIn K (.ref C) == some (.type "type")) = true then PySem.W.subIn K t (.ref C) else none) = some b
    rw [if_pos e]
    exact h3
theorem kit_tp {C : Addr} {T : String} {b : Bool} (hm : PySem.W.kitMeta T = true) (h : PySem.W.subIn K (.ref C) (.type T) = some b) : PySem.W.kitOne K (.ref C) (.type T) = some b := by
  have e : ((Value.ref C) == (Value.type T)) = false := beq_eq_false_iff_ne.mpr fun z => nomatch z
  show (if ((Value.ref C) == (Value.type T)) = true then some true else if PySem.W.kitMeta T = true then PySem.W.subIn K (.ref C) (.type T) else none) = some b
  rw [e, if_neg Bool.false_ne_true, if_pos hm]
  exact h
theorem bfR {x y : Addr} (h : x ≠ y) : (Value.ref x == Value.ref y) = false := beq_eq_false_iff_ne.mpr fun z => h (Value.ref.inj z)
theorem insTy_of {C : Addr} (cl : Cls K C) (ca : PySem.W.findIn K (.ref C) "__class__" = some (some (.builtin "object.__class__"))) (cn : PySem.W.specialIn K (.builtin "object.__class__") "__get__" = some (some (.builtin "getset_descriptor.__get__"))) (ct : PySem.W.takesIn K (.builtin "object.__class__") = some true) (cm : PySem.W.mroIn K C (.type "object") = some true) : InsTy K C :=
  fun H a dx fs h => .base (.ins h cl ca cn ct cm)
/-- a table of two lists of classes -/
theorem ct_of {u : Value} {l1 l2 : List Addr} (h1 : ∀ C ∈ l1, PySem.W.kitOne K (.ref C) u = some true ∧ InsTy K C) (h2 : ∀ C ∈ l2, PySem.W.kitOne K (.ref C) u = some false ∧ InsTy K C) : CtOk K u (fun C => if C ∈ l1 then some true else if C ∈ l2 then some false else none) := fun C b e => by
  simp only at e
  split at e
  · rename_i h; cases e; exact h1 C h
  · split at e
    · rename_i h; cases e; exact h2 C h
    · cases e
theorem ctB_of {u : Value} {l : List Addr} (h : ∀ C ∈ l, PySem.W.kitOne K (.ref C) u = some false ∧ InsTy K C) : CtOk K u (fun C => if C ∈ l then some false else none) := fun C b e => by
  simp only at e
  split at e
  · rename_i h'; cases e; exact h C h'
  · cases e
/-- isinstance(.., an own class): nothing built-in is -/
theorem isT_own {D : Addr} {ct : Addr → Option Bool} (iD : PySem.W.isClsIn K D = true) (tD : PySem.W.typeIn K (.ref D) = some (.type "type")) (n1 : PySem.W.subIn K (.type "NoneType") (.ref D) = some false) (n2 : PySem.W.subIn K (.type "bool") (.ref D) = some false) (n3 : PySem.W.subIn K (.type "int") (.ref D) = some false)
    (n4 : PySem.W.subIn K (.type "str") (.ref D) = some false) (n5 : PySem.W.subIn K (.type "list") (.ref D) = some false) (n6 : PySem.W.subIn K (.type "tuple") (.ref D) = some false) (hc : CtOk K (.ref D) ct) : IsT K [.ref D] (tyTab (fun _ => false) ct) := isT1 (fun y hy => by
  have z : ∀ T : String, ((Value.type T) == (Value.ref D)) = false := fun T => beq_eq_false_iff_ne.mpr fun z => nomatch z
  cases y with
  | cls C => exact absurd rfl (hy C)
  | non => exact kit_own iD tD n1 (.inl (z _))
  | bl => exact kit_own iD tD n2 (.inl (z _))
  | int => exact kit_own iD tD n3 (.inl (z _))
  | str => exact kit_own iD tD n4 (.inl (z _))
  | lst => exact kit_own iD tD n5 (.inl (z _))
  | tup => exact kit_own iD tD n6 (.inl (z _))) hc
theorem KTup.of {a : Addr} {xs : List V} {its : List Value} {n : Nat} {od : Option Addr} {sl : Array (Option Value)} (l : K.lookup a = some ⟨.type "tuple", od, .seq its.toArray n, sl⟩) (hz : its.length ≤ 1000) (r : Vals xs its) (H : Hp) : SqT K H a xs :=
  .inr ⟨_, its.toArray, n, l, rfl, rfl, by rw [List.size_toArray]; exact Nat.le_trans hz (by decide), r⟩
theorem fund_mk {x qual : Str} {params : Arguments} {body : List Stmt} {scope : Scope} {dvs : List V} {f T : Addr} {oc kV doc pm cd ct tc : Value} {od an td : Option Addr} {osl tsl : Array (Option Value)} {its : List Value} {n : Nat}
    (l : K.lookup f = some ⟨oc, od, .func (PySem.W.fnOf x qual params body scope (.ref T) kV doc pm an cd ct), osl⟩) (c : PySem.W.codeIn K cd qual = true) (t : K.lookup T = some ⟨tc, td, .seq its.toArray n, tsl⟩) (v : Vals dvs its) (hd : dvs ≠ []) (k : PySem.W.keepIn K (.ref f) = true) :
    FunD K x qual params body scope dvs [] f (PySem.W.fnOf x qual params body scope (.ref T) kV doc pm an cd ct) :=
  ⟨⟨oc, od, .ref T, kV, doc, pm, an, cd, ct, osl, rfl, l, c, .inr ⟨hd, T, _, its, n, rfl, t, rfl, v⟩, .inl rfl⟩, k⟩
theorem cmet_mk {C p g : Addr} {mc : Value} {m : Str} {rest : List Value} (h1 : PySem.W.findCls K (.ref C) mc m = some (.get (.builtin "classmethod.__get__") (.ref p) .none (.ref C))) (h2 : PySem.W.recIn K p "classmethod" = some (.ref g :: rest)) (h3 : PySem.W.fnIn K g = true) : ClX.CMet K C mc m p g := ⟨h1, ⟨rest, h2⟩, h3⟩
/-- tables of defs by address -/
theorem tb0 {p : Addr → VF → Prop} : ∀ C vf, (none : Option VF) = some vf → p C vf := fun _ _ e => nomatch e
theorem tb1 {p : Addr → VF → Prop} {C0 : Addr} {v0 : VF} {rest : Addr → Option VF} (h : p C0 v0) (r : ∀ C vf, rest C = some vf → p C vf) : ∀ C vf, (if C = C0 then some v0 else rest C) = some vf → p C vf := fun C vf e => by
  split at e
  · rename_i z; cases e; subst z; exact h
  · exact r C vf e
/-- constant dicts -/
theorem kt0 {p : Str → T → Prop} : ∀ z t, (none : Option T) = some t → p z t := fun _ _ e => nomatch e
theorem kt1 {p : Str → T → Prop} {k : Str} {u : T} {rest : Str → Option T} (h : p k u) (r : ∀ z t, rest z = some t → p z t) : ∀ z t, (if z = k then some u else rest z) = some t → p z t := fun z t e => by
  split at e
  · rename_i q; cases e; subst q; exact h
  · exact r z t e
theorem kb0 {p : Str → Bool → Prop} : ∀ z b, (none : Option Bool) = some b → p z b := fun _ _ e => nomatch e
theorem kb1 {p : Str → Bool → Prop} {k : Str} {u : Bool} {rest : Str → Option Bool} (h : p k u) (r : ∀ z b, rest z = some b → p z b) : ∀ z b, (if z = k then some u else rest z) = some b → p z b := fun z b e => by
  split at e
  · rename_i q; cases e; subst q; exact h
  · exact r z b e
theorem kdct_of {w : World} {a : Addr} {es : Array DictEntry} {n : Nat} {x : Str} {u : Value} {v : V} (D : KDict K w a es n) (h : PySem.W.nsIn K a x = some (some u)) (r : RelV v u) : KDct K w a x v := ⟨es, n, u, D.at_, D.lit, h, r⟩
/-- C(k = ..) binds in the order of the parameters -/
theorem kbn_of {x qual : Str} {st : Stmt} {f : Addr} {fd : FuncData} {p0 : Str} {ks : List Str} (F : Fun K x qual st f fd)
    (h : ∀ (kV doc pm : Value) (an : Option Addr) (cdv ct : Value) (us ws : List Value), us.length = 1 → ws.length = ks.length → bindArgs (PySem.W.fnOf x qual (defArgs st) (defBody st) (defScope st) .none kV doc pm an cdv ct) ⟨us, ks.zip ws⟩ = pure ((p0 :: ks).zip (us ++ ws))) :
    KBn K fd (p0 :: ks) 1 ks (fun us ws => us ++ ws) (fun vs zs => vs ++ zs) := by
  obtain ⟨oc, od, kV, doc, pm, an, cdv, ct, osl, rfl, lk, hcd⟩ := F.ex
  exact ⟨fun s us ws X l1 l2 => BindsTo.of_eq (h kV doc pm an cdv ct us ws l1 l2), fun r1 r2 => r1.append r2⟩
end
section
variable {P : Program} {w : World} {K : PySem.W.Frag} {mg : Str → Option Value} {base : Heap}
theorem none_ok {x qual : Str} {st : Stmt} {f : Addr} {fd : FuncData} {N ps : List Str} (F : Fun K x qual st f fd) (S : FnScope N ps (defScope st)) : FnOk P w K mg base (L2.CX P w) 1 f fd ps (SpV K ps.length (vDef N.length fun _ => none)) := okV (k := 0) F S fun cdv A outer s H E hr => pss_none
end
theorem cx_end {P : Program} {w : World} {H : Hp} {s s' : Shared} {e : Value} (h : L2.CX P w [] H s (fun _ _ _ => False) e s') : False := by
  obtain ⟨_, _, _, _, _, _, _, _, _, _, _, _, z⟩ := h
  exact z
theorem ints_rp {K : PySem.W.Frag} {F : Hp} : ∀ ns : List Int, RpL K F (ns.map V.int) (ns.map T.int)
  | [] => .nil
  | n :: r => .cons (.int n) (ints_rp r)
/-- a law that answers True to every script -/
theorem law_sp {K : PySem.W.Frag} {vf : VF} {n : Nat} (h : ∀ ns : List Int, ns.length ≤ n → ∃ m', vf [.val (.seq (ns.map T.int))] [] = some (.ok (.val (.bl true)), m')) (H : Hp) (a : Addr) (ns : List Int) (hl : ns.length ≤ n) (hS : SqL K H a (ns.map V.int)) :
    SpV K 1 vf [.ref a] H (fun v _ => v = .bl true) fun _ _ _ => False := by
  obtain ⟨m', e⟩ := h ns hl
  refine ⟨rfl, H, [], [.val (.seq (ns.map T.int))], [], ⟨fun _ _ h => h, rfl, List.nodup_nil, fun _ h => (nomatch h), fun i a o h => by simp at h⟩, .cons (show Rp K H (.ref a) (.seq (ns.map T.int)) from .seq hS (ints_rp ns)) .nil, _, m', e, ?_⟩
  intro F' A' v H' n' o r
  cases r
  rfl
end Vs
end
section
/-! DictN: dicts whose keys are tuples of any depth. -/
namespace Vs
open PySem PySem.Spec PyProof.Rows L2
/-! ### keys -/
mutual
inductive NKey (K : PySem.W.Frag) (H : Hp) : V → NestedKey → Prop
  | non : NKey K H .non .none
  | bl (b : Bool) : NKey K H (.bl b) (.num (if b = true then 1 else 0))
  | int (i : Int) : NKey K H (.int i) (.num i)
  | str (x : Str) : NKey K H (.str x) (.text x)
  | tup {a : Addr} {xs : List V} {ks : List NestedKey} : SqT K H a xs → NKeys K H xs ks → NKey K H (.ref a) (.tup ks)
inductive NKeys (K : PySem.W.Frag) (H : Hp) : List V → List NestedKey → Prop
  | nil : NKeys K H [] []
  | cons {v : V} {vs : List V} {k : NestedKey} {ks : List NestedKey} : NKey K H v k → NKeys K H vs ks → NKeys K H (v :: vs) (k :: ks)
end
section
variable {K : PySem.W.Frag} {F H : Hp}
mutual
theorem rp_nkey (e : Same F H) : ∀ {v : V} {t : T} {k : NestedKey}, Rp K F v t → nkOf t = some k → NKey K H v k
  | _, _, k, .non, h => by unfold nkOf at h; cases h; exact .non
  | _, _, k, .bl b, h => by unfold nkOf at h; cases h; exact .bl b
  | _, _, k, .int i, h => by unfold nkOf at h; cases h; exact .int i
  | _, _, k, .str x, h => by unfold nkOf at h; cases h; exact .str x
  | _, .tup ts, k, .tup a r, h => by
    unfold nkOf at h
    cases z : nksOf ts with
    | none => rw [z] at h; cases h
    | some ks => rw [z] at h; cases h; exact .tup (sqT_same e a) (rpL_nkeys e r z)
  | _, _, k, .lst a r, h => by unfold nkOf at h; cases h
  | _, _, k, .seq a r, h => by unfold nkOf at h; cases h
  | _, _, k, .ins a r, h => by unfold nkOf at h; cases h
  | _, _, k, .cst v, h => by unfold nkOf at h; cases h
theorem rpL_nkeys (e : Same F H) : ∀ {vs : List V} {ts : List T} {ks : List NestedKey}, RpL K F vs ts → nksOf ts = some ks → NKeys K H vs ks
  | _, _, ks, .nil, h => by unfold nksOf at h; cases h; exact .nil
  | _, t :: r, ks, .cons a q, h => by
    unfold nksOf at h
    split at h
    · rename_i k ks' h1 h2
      cases h
      exact .cons (rp_nkey e a h1) (rpL_nkeys e q h2)
    · cases h
end
end
section
variable {X : Cx} {pins : List (Addr × Obj)} {σ : L2.St} {H : Hp} {s : Shared}
mutual
theorem nkey_is (I : Inv X pins σ H s) : ∀ {v : V} {k : NestedKey} {u : Value}, NKey X.K H v k → RelV v u → NestedIs s.heap k u
  | _, _, u, .non, r => by cases (show u = .none from r); exact .none
  | _, _, u, .bl b, r => by cases (show u = .bool b from r); exact .bool rfl
  | _, _, u, .int i, r => by obtain ⟨t, rfl⟩ := r; exact .int i t
  | _, _, u, .str x, r => by obtain ⟨t, rfl⟩ := r; exact .text x t
  | _, _, u, .tup (a := a) hq hk, r => by
    cases (show u = .ref a from r)
    obtain ⟨its, rv, ht, hz⟩ := I.tuple hq
    obtain ⟨o, h1, h2, n, h3⟩ := ht
    exact .tup h1 h2 h3 (by simpa using nkeys_is I hk rv)
theorem nkeys_is (I : Inv X pins σ H s) : ∀ {vs : List V} {ks : List NestedKey} {us : List Value}, NKeys X.K H vs ks → Vals vs us → NestedAll s.heap ks us
  | _, _, _, .nil, r => by cases r; exact .nil
  | _, _, _, .cons h q, r => by
    cases r with
    | cons r1 r2 => exact .cons (nkey_is I h r1) (nkeys_is I q r2)
end
/-- the keys of such a dict stand in the heap -/
def KeysIn (K : PySem.W.Frag) (H : Hp) (xs : List (NestedKey × Addr × Value)) : Prop := ∀ x ∈ xs, NKey K H (.ref x.2.1) x.1 ∧ x.1.depth ≤ 8
theorem DRel.keys {K : PySem.W.Frag} {F : Hp} (e : Same F H) : ∀ {kvs : List (T × T)} {xs : List (NestedKey × Addr × Value)}, DRel K F kvs xs → KeysIn K H xs
  | _, _, .nil => fun _ h => nomatch h
  | _, _, .cons ⟨h1, h2, h3, _⟩ r => fun x hx => by
    rcases List.mem_cons.mp hx with rfl | hx
    · exact ⟨rp_nkey e h3 h1, h2⟩
    · exact DRel.keys e r x hx
theorem dn_of {a : Addr} {xs : List (NestedKey × Addr × Value)} (I : Inv X pins σ H s) (e : H a = some (DN X.prog X.w a xs)) (hk : KeysIn X.K H xs) : xs.length ≤ sizeLine ∧ (a == sysModules) = false ∧ s.heap.DictOfH (nestedKind X.prog X.w) a xs := by
  obtain ⟨⟨o, es, ep, h1, h2, h3, h4, h5, h6, h7⟩, _, _⟩ := (show ObjOk X.prog X.w H s.heap a (DN X.prog X.w a xs) from I.hok a _ e)
  exact ⟨h6, h7, o, es, ep, h1, h2, h3, h4, fun x hx => ⟨nkey_is I (hk x hx).1 rfl, (hk x hx).2⟩, h5⟩
end
/-! ### d[y], y in d, d[y] = v -/
def rNGet (P : Program) (w : World) (K : PySem.W.Frag) : R2 := fun x y H Q => ∃ a xs k b p v, x = .ref a ∧ H a = some (DN P w a xs) ∧ KeysIn K H xs ∧ y = .ref b ∧ NKey K H y k ∧ k.depth ≤ 8 ∧ atKey xs k = some p ∧ RelV v p.2 ∧ Q v H
def rNIn (P : Program) (w : World) (K : PySem.W.Frag) (neg : Bool) : R2 := fun x y H Q => ∃ a xs k b, y = .ref a ∧ H a = some (DN P w a xs) ∧ KeysIn K H xs ∧ x = .ref b ∧ NKey K H x k ∧ k.depth ≤ 8 ∧ Q (.bl (if neg then !(atKey xs k).isSome else (atKey xs k).isSome)) H
section
variable {X : Cx}
theorem nroom {A : Around} (hu : A.units + 64 < cLine) : (nestedKind X.prog X.w).room A.in1 := by
  show A.units + 1 + 8 < cLine
  omega
theorem ix_nd (hu : X.A.units + 64 < cLine) : IxR X (rNGet X.prog X.w X.K) := by
  intro value slice pins s σ H x y v u Q I rx ry h hs
  obtain ⟨a, xs, k, b, p, z, rfl, e, hk, rfl, ny, hd, hp, rz, q⟩ := h
  obtain rfl : v = Value.ref a := rx
  obtain rfl : u = Value.ref b := ry
  obtain ⟨_, _, dd⟩ := dn_of I e hk
  exact tail_any dd.typeIs slot_dict_getitem.lookup (wpAny_getItem_heap (nroom hu) ⟨nkey_is I ny rfl, hd⟩ dd hp ⟨z, H, I.tok _, rz, q⟩) hs
theorem op_nin (hu : X.A.units + 64 < cLine) : OpR X (compareOp .In) (rNIn X.prog X.w X.K false) := by
  intro pins s σ H x y v u Q I rx ry h
  obtain ⟨a, xs, k, b, rfl, e, hk, rfl, ny, hd, q⟩ := h
  obtain rfl : u = Value.ref a := ry
  obtain rfl : v = Value.ref b := rx
  obtain ⟨_, hy, dd⟩ := dn_of I e hk
  exact wpAny_in_heap (nroom hu) ⟨nkey_is I ny rfl, hd⟩ hy dd ⟨.bl _, H, I.tok _, rfl, q⟩
theorem op_nnotin (hu : X.A.units + 64 < cLine) : OpR X (compareOp .NotIn) (rNIn X.prog X.w X.K true) := by
  intro pins s σ H x y v u Q I rx ry h
  obtain ⟨a, xs, k, b, rfl, e, hk, rfl, ny, hd, q⟩ := h
  obtain rfl : u = Value.ref a := ry
  obtain rfl : v = Value.ref b := rx
  obtain ⟨_, hy, dd⟩ := dn_of I e hk
  exact wpAny_notIn_heap (nroom hu) ⟨nkey_is I ny rfl, hd⟩ hy dd ⟨.bl _, H, I.tok _, rfl, q⟩
def rNSet (P : Program) (w : World) (K : PySem.W.Frag) : TSet := fun x y v H Q => ∃ a xs k b, x = .ref a ∧ H a = some (DN P w a xs) ∧ KeysIn K H xs ∧ y = .ref b ∧ NKey K H y k ∧ k.depth ≤ 8 ∧ xs.length < sizeLine ∧ ∀ r, RelV v r → Q (upd H a (DN P w a (storedH xs k b r)))
theorem set_nd (hu : X.A.units + 64 < cLine) : PSet X (rNSet X.prog X.w X.K) := by
  intro pins s σ H x y v xv yv r Q I rx ry rv h
  obtain ⟨a, xs, k, b, rfl, e, hk, rfl, ny, hd, hl, q⟩ := h
  obtain rfl : xv = Value.ref a := rx
  obtain rfl : yv = Value.ref b := ry
  obtain ⟨hz, hy, dd⟩ := dn_of I e hk
  refine wpAny_setItem_heap (hsz := hz) (nroom hu) ⟨nkey_is I ny rfl, hd⟩ dd fun h' dd' hs => ⟨_, ?_, q r rv⟩
  obtain ⟨o, es, ep, h1, h2, h3, h4, _, h5⟩ := dd'
  have lz : (storedH xs k b r).length ≤ sizeLine := by
    unfold storedH
    split
    · rw [List.length_map]; omega
    · rw [List.length_append, List.length_singleton]; omega
  exact d_write I (by rw [e]; exact True.intro) hs ⟨o, h1⟩ ⟨⟨o, es, ep, h1, h2, h3, h4, h5, lz, hy⟩, ⟨o, h1⟩, fun h1' h2' ⟨o', es', ep', k1, k2⟩ st => ⟨o', es', ep', st _ k1, k2⟩⟩
end
end Vs
end
section
/-! Vs33: dicts by tuples of any depth, by values: d[y], y in d, y not in d, d[y] = v. -/
namespace Vs
open PySem PySem.Spec PyProof.Rows L2
def dFindK : List (T × T) → NestedKey → Option T
  | [], _ => none
  | (t, u) :: r, k => match nkOf t with
    | some k' => if NestedKey.beq k' k = true then some u else dFindK r k
    | none => none
def dRepK (k : NestedKey) (v : T) : List (T × T) → List (T × T)
  | [] => []
  | (t, u) :: r => (match nkOf t with
    | some k' => if NestedKey.beq k' k = true then (t, v) else (t, u)
    | none => (t, u)) :: dRepK k v r
def dPutK (kvs : List (T × T)) (t : T) (k : NestedKey) (v : T) : List (T × T) := match dFindK kvs k with
  | some _ => dRepK k v kvs
  | none => kvs ++ [(t, v)]
def nkTup (t : T) : Option NestedKey := match t with
  | .tup ts => match nksOf ts with
    | some ks => if (NestedKey.tup ks).depth ≤ 8 then some (.tup ks) else none
    | none => none
  | _ => none
theorem pair_app {α β : Type} {G : α → β → Prop} : ∀ {l1 : List α} {l2 : List β} {m1 : List α} {m2 : List β}, Paired G l1 l2 → Paired G m1 m2 → Paired G (l1 ++ m1) (l2 ++ m2)
  | _, _, _, _, .nil, h => h
  | _, _, _, _, .cons a r, h => .cons a (pair_app r h)
theorem beq_iff (a b : NestedKey) : NestedKey.beq a b = decide (a = b) := (NestedKey.decide_eq a b).symm
section
variable {K : PySem.W.Frag} {F : Hp}
theorem find_rel {k : NestedKey} : ∀ {kvs : List (T × T)} {xs : List (NestedKey × Addr × Value)}, DRel K F kvs xs → (∀ u, dFindK kvs k = some u → ∃ p v, atKey xs k = some p ∧ RelV v p.2 ∧ Rp K F v u) ∧ (dFindK kvs k = none → atKey xs k = none)
  | [], _, .nil => ⟨fun u e => (nomatch e), fun _ => rfl⟩
  | (t, u) :: r, (k1, a, v) :: xs, .cons ⟨h1, h2, h3, w, h4, h5⟩ q => by
    have h1 : nkOf t = some k1 := h1
    obtain ⟨i1, i2⟩ := find_rel (k := k) q
    unfold dFindK
    rw [h1]
    simp only [beq_iff, decide_eq_true_eq]
    by_cases e : k1 = k
    · rw [if_pos e]
      refine ⟨fun u' e' => ?_, fun z => nomatch z⟩
      cases e'
      exact ⟨(a, v), w, by simp [atKey, List.find?_cons, e], h4, h5⟩
    · rw [if_neg e]
      have ea : atKey ((k1, a, v) :: xs) k = atKey xs k := by simp [atKey, List.find?_cons, e]
      rw [ea]
      exact ⟨i1, i2⟩
theorem rep_rel {k : NestedKey} {v : V} {r : Value} {u : T} (hr : RelV v r) (hv : Rp K F v u) : ∀ {kvs : List (T × T)} {xs : List (NestedKey × Addr × Value)}, DRel K F kvs xs → DRel K F (dRepK k u kvs) (xs.map (putAt k r))
  | [], _, .nil => .nil
  | (t, u0) :: rr, (k1, a, v0) :: xs, .cons ⟨h1, h2, h3, w, h4, h5⟩ q => by
    have h1 : nkOf t = some k1 := h1
    have ih := rep_rel (k := k) hr hv q
    unfold dRepK
    rw [List.map_cons, h1]
    simp only [beq_iff, decide_eq_true_eq]
    by_cases e : k1 = k
    · rw [if_pos e]
      have ea : putAt k r (k1, a, v0) = (k1, a, r) := by unfold putAt; rw [if_pos e]
      rw [ea]
      exact .cons ⟨h1, h2, h3, v, hr, hv⟩ ih
    · rw [if_neg e]
      have ea : putAt k r (k1, a, v0) = (k1, a, v0) := by unfold putAt; rw [if_neg e]
      rw [ea]
      exact .cons ⟨h1, h2, h3, w, h4, h5⟩ ih
theorem put_rel {k : NestedKey} {t u : T} {b : Addr} {v : V} {r : Value} {kvs : List (T × T)} {xs : List (NestedKey × Addr × Value)} (hk : nkOf t = some k) (hd : k.depth ≤ 8) (hb : Rp K F (.ref b) t) (hr : RelV v r) (hv : Rp K F v u) (q : DRel K F kvs xs) : DRel K F (dPutK kvs t k u) (storedH xs k b r) := by
  obtain ⟨i1, i2⟩ := find_rel (k := k) q
  unfold dPutK storedH
  cases e : dFindK kvs k with
  | some u0 =>
    obtain ⟨p, w, h1, _⟩ := i1 u0 e
    rw [h1]
    exact rep_rel hr hv q
  | none =>
    rw [i2 e]
    exact pair_app q (.cons ⟨hk, hd, hb, v, hr, hv⟩ .nil)
theorem nkTup_at {t : T} {k : NestedKey} {y : V} (e : nkTup t = some k) (r : Rp K F y t) : ∃ b, y = .ref b ∧ nkOf t = some k ∧ k.depth ≤ 8 := by
  unfold nkTup at e
  split at e
  · rename_i ts
    split at e
    · rename_i ks ek
      split at e
      · rename_i hd
        cases e
        cases r with
        | tup h q => exact ⟨_, rfl, by unfold nkOf; rw [ek], hd⟩
      · cases e
    · cases e
  · cases e
end
variable [WW]
section
variable {K : PySem.W.Frag} {W : WX} {X : Cx}
def gNGet (a b : Sl) (m : List MO) : M Sl := match a, b with
  | .own i, .val t => match m[i]?, nkTup t with
    | some (.dct kvs), some k => match dFindK kvs k with
      | some u => rM (.val u) m
      | none => none
    | _, _ => none
  | _, _ => none
theorem ov_nget : OpV K (rNGet WW.p WW.w K) gNGet := by
  intro W F A ρ m σ H x y a b Q w ra rb g
  unfold gNGet at g
  split at g
  · rename_i i t
    split at g
    · rename_i kvs k em ek
      split at g
      · rename_i u eu
        obtain ⟨ad, ea, rfl⟩ := ra
        obtain ⟨fa, xs, eh, dr⟩ := w.os.obj i ad _ ea em
        obtain ⟨b', rfl, hk, hd⟩ := nkTup_at ek rb
        obtain ⟨p, v, h1, h2, h3⟩ := (find_rel dr).1 u eu
        exact ⟨ad, xs, k, b', p, v, rfl, eh, dr.keys w.os.sub, rfl, rp_nkey w.os.sub rb hk, hd, h1, h2, g.now w (show RpS K F A v (.val u) from h3)⟩
      · exact none_got g
    · exact none_got g
  · exact none_got g
def gNIn (neg : Bool) (a b : Sl) (m : List MO) : M Sl := match b, a with
  | .own i, .val t => match m[i]?, nkTup t with
    | some (.dct kvs), some k => rM (.val (.bl (if neg then !(dFindK kvs k).isSome else (dFindK kvs k).isSome))) m
    | _, _ => none
  | _, _ => none
theorem ov_nin {neg : Bool} : OpV K (rNIn WW.p WW.w K neg) (gNIn neg) := by
  intro W F A ρ m σ H x y a b Q w ra rb g
  unfold gNIn at g
  split at g
  · rename_i i t
    split at g
    · rename_i kvs k em ek
      obtain ⟨ad, ea, rfl⟩ := rb
      obtain ⟨fa, xs, eh, dr⟩ := w.os.obj i ad _ ea em
      obtain ⟨b', rfl, hk, hd⟩ := nkTup_at ek ra
      have es : (atKey xs k).isSome = (dFindK kvs k).isSome := by
        obtain ⟨i1, i2⟩ := find_rel (k := k) dr
        cases z : dFindK kvs k with
        | some u => obtain ⟨p, v, h1, _⟩ := i1 u z; rw [h1]; rfl
        | none => rw [i2 z]; rfl
      refine ⟨ad, xs, k, b', rfl, eh, dr.keys w.os.sub, rfl, rp_nkey w.os.sub ra hk, hd, ?_⟩
      rw [es]
      exact g.now w (.bl _)
    · exact none_got g
  · exact none_got g
theorem pe_vnget {a b : Expr} {fa fb : VE} {pos : Pos} (hp : X.prog = WW.p) (hw : X.w = WW.w) (hu : X.A.units + 64 < cLine) (hs : PlainIx b) (ha : PE X a (LE X.K W fa)) (hb : PE X b (LE X.K W fb)) : PE X (.Subscript a b pos) (LE X.K W (vBin gNGet fa fb)) := by
  have h := ix_nd (X := X) hu
  rw [hp, hw] at h
  exact PE.imp (pe_ix h ha hb hs) fun _ _ _ => le_bin ov_nget
theorem pt_vnin {a b : Expr} {fa fb : VE} {pos : Pos} (hp : X.prog = WW.p) (hw : X.w = WW.w) (hu : X.A.units + 64 < cLine) (hm : behindInMarks .In b = false) (ha : PE X a (LE X.K W fa)) (hb : PE X b (LE X.K W fb)) : PT X (.Compare a [.In] [b] pos) (LT X.K W (vTest (vBin (gNIn false) fa fb))) := by
  have h := op_nin (X := X) hu
  rw [hp, hw] at h
  exact pt_vcmp h ov_nin ha hb hm
theorem pt_vnnotin {a b : Expr} {fa fb : VE} {pos : Pos} (hp : X.prog = WW.p) (hw : X.w = WW.w) (hu : X.A.units + 64 < cLine) (hm : behindInMarks .NotIn b = false) (ha : PE X a (LE X.K W fa)) (hb : PE X b (LE X.K W fb)) : PT X (.Compare a [.NotIn] [b] pos) (LT X.K W (vTest (vBin (gNIn true) fa fb))) := by
  have h := op_nnotin (X := X) hu
  rw [hp, hw] at h
  exact pt_vcmp h ov_nin ha hb hm
theorem pe_vnin {a b : Expr} {fa fb : VE} {pos : Pos} (hp : X.prog = WW.p) (hw : X.w = WW.w) (hu : X.A.units + 64 < cLine) (hm : behindInMarks .In b = false) (ha : PE X a (LE X.K W fa)) (hb : PE X b (LE X.K W fb)) : PE X (.Compare a [.In] [b] pos) (LE X.K W (vBin (gNIn false) fa fb)) := by
  have h := op_nin (X := X) hu
  rw [hp, hw] at h
  exact pe_vcmp h ov_nin ha hb hm
/-- d[y] = v -/
def gNSet (ρ : List (Option Sl)) (v o k : Sl) (m : List MO) : R := match v, o, k with
  | .val u, .own j, .val t => match m[j]?, nkTup t with
    | some (.dct kvs), some k => if kvs.length < SZ then some (.nx, ⟨ρ, m.set j (.dct (dPutK kvs t k u))⟩) else none
    | _, _ => none
  | _, _, _ => none
theorem nset_go {F : Hp} {A : List Addr} {ρ : List (Option Sl)} {m : List MO} {σ : L2.St} {H : Hp} {D : Ends} {v o k : Sl} {x y z : V} (w : Wd K F A ρ m σ H) (rv : RpS K F A x v) (ro : RpS K F A y o) (rk : RpS K F A z k) (q : Ran K W F A H D (gNSet ρ v o k m)) : rNSet WW.p WW.w K y z x H fun H4 => D.nx σ H4 := by
  unfold gNSet at q
  split at q
  · rename_i u j t
    split at q
    · rename_i kvs k em ek
      split at q
      · rename_i hz
        obtain ⟨ad, ea, rfl⟩ := ro
        obtain ⟨fa, xs, eh, dr⟩ := w.os.obj j ad _ ea em
        obtain ⟨b', rfl, hk, hd⟩ := nkTup_at ek rk
        refine ⟨ad, xs, k, b', rfl, eh, dr.keys w.os.sub, rfl, rp_nkey w.os.sub rk hk, hd, ?_, fun r hr => ?_⟩
        · have := Paired.length dr
          rw [← this]
          exact sz_lt hz
        · have wr := w.os.write ea fa (u := DN WW.p WW.w ad (storedH xs k b' r)) (o := .dct (dPutK kvs t k u)) ⟨fa, _, upd_same, put_rel hk hd rk hr rv dr⟩
          exact (q.later (Nxt.write (List.mem_of_getElem? ea))).nx (w.of (Same.refl _) (List.prefix_refl _) wr)
      · exact none_ran q
    · exact none_ran q
  · exact none_ran q
def vNSet (fo fi fv : VE) : VS := fun s => bS s.ρ (fv s) fun v m1 => bS s.ρ (fo ⟨s.ρ, m1⟩) fun o m2 => bS s.ρ (fi ⟨s.ρ, m2⟩) fun k m3 => gNSet s.ρ v o k m3
theorem ps_vnset {o i value : Expr} {fo fi fv : VE} {pos p2 : Pos} (hp : X.prog = WW.p) (hw : X.w = WW.w) (hu : X.A.units + 64 < cLine) (ho : PE X o (LE X.K W fo)) (hi : PE X i (LE X.K W fi)) (hv : PE X value (LE X.K W fv))
    (ha : ∀ v, assign (.Subscript o i p2) X.env v = (do
      let ov ← holding [v] (eval o X.env)
      let iv ← holding [v, ov] (eval i X.env)
      standAt p2
      holding [v, ov, iv] (setItem ov iv v)
      release [v, ov, iv] []) := by intro _; rfl) (hs : swapsWithSole [.Subscript o i p2] value pos.line X.env = pure false := by rfl) (hww : swappedStores [.Subscript o i p2] value X.env = pure none := by rfl)
    (h1 : (assignEach [.Subscript o i p2] X.env).map (·.2) = [assign (.Subscript o i p2) X.env] := by rfl) : PS X (.Assign [.Subscript o i p2] value pos) (LS X.K W (vNSet fo fi fv)) := by
  have h := set_nd (X := X) hu
  rw [hp, hw] at h
  exact PS.imp (ps_asg hv (pg_sub ho hi h ha) hs hww h1) fun D σ H ⟨F, A, ρ, m, w, r⟩ =>
  ⟨F, A, ρ, m, w, (Ran.bS (rS X.K) r).mono fun x H1 ⟨F1, A1, m1, v, n1, w1, rv, q1⟩ => ⟨F1, A1, ρ, m1, w1, (Ran.bS (rS X.K) q1).mono fun y H2 ⟨F2, A2, m2, d, n2, w2, rd, q2⟩ => ⟨F2, A2, ρ, m2, w2, (Ran.bS (rS X.K) q2).mono fun z H3 ⟨F3, A3, m3, k, n3, w3, rk, q3⟩ =>
    nset_go w3 (rv.next (n2.sub.trans n3.sub) (List.IsPrefix.trans n2.pre n3.pre)) (rd.next n3.sub n3.pre) rk q3⟩⟩⟩
end
end Vs
end
section
/-! Vs34: {k: v} with a tuple as its key. -/
namespace Vs
open PySem PySem.Spec PyProof.Rows L2
def tNDisp (P : Program) (w : World) (K : PySem.W.Frag) (tk tv : TE) : TE := fun σ H Q => ∀ p, H p = none → tk σ (upd H p (DN P w p [])) fun y H1 => tv σ H1 fun v H2 => H2 p = some (DN P w p []) ∧ ∃ b k, y = .ref b ∧ NKey K H2 y k ∧ k.depth ≤ 8 ∧ ∀ r, RelV v r → Q (.ref p) (upd H2 p (DN P w p [(k, b, r)]))
theorem dn_ok {P : Program} {w : World} {H : Hp} {h : Heap} {a : Addr} {xs : List (NestedKey × Addr × Value)} (d : h.DictOfH (nestedKind P w) a xs) (z : xs.length ≤ sizeLine) (y : (a == sysModules) = false) : ObjOk P w H h a (DN P w a xs) := by
  obtain ⟨o, es, ep, h1, h2, h3, h4, _, h5⟩ := d
  exact ⟨⟨o, es, ep, h1, h2, h3, h4, h5, z, y⟩, ⟨o, h1⟩, fun h1' h2' ⟨o', es', ep', k1, k2⟩ st => ⟨o', es', ep', st _ k1, k2⟩⟩
section
variable {X : Cx}
theorem pe_ndisp {ke ve : Expr} {tk tv : TE} {pos : Pos} (hu : X.A.units + 64 < cLine) (hk : PE X ke tk) (hv : PE X ve tv) : PE X (.Dict [some ke] [ve] pos) (tNDisp X.prog X.w X.K tk tv) := by
  refine ⟨fun pins s σ H Q I h => ?_⟩
  have hn := I.hok.fresh (Nat.le_refl s.heap.objs.size)
  have big := I.big
  have hy : (s.heap.objs.size == sysModules) = false := beq_eq_false_iff_ne.mpr (Nat.ne_of_gt big)
  have I1 := I.laid (a := s.heap.objs.size) (o := DN X.prog X.w s.heap.objs.size []) (h' := s.heap.push { cls := .type "dict", data := .dict #[] }) (t' := s.toks) (fun _ _ q => Heap.get?_push_of_some _ q) (Nat.le_refl _) (dn_ok (Heap.DictOfH.new s.heap) (Nat.zero_le _) hy)
  have hrm : (nestedKind X.prog X.w).room X.A := by show X.A.units + 8 < cLine; omega
  have q := h _ hn
  have hsh : (evalEachOpt [some ke] X.env).zip ((evalEach [ve] X.env).map fun v => do let x ← v; standAt pos; pure x) = [(eval ke X.env, (do let x ← eval ve X.env; standAt pos; pure x))].map fun p => (some p.1, p.2) := rfl
  rw [arm_eval_Dict, hsh, dictDisplay_pairs _ (by simp) (by show 1 < 17; decide)]
  refine wpAny_bind (wpAny_standAt (wpAny_bind (wpAny_subDictH (knd := nestedKind X.prog X.w) hrm (by show 1 ≤ 15; decide) ?_)))
  refine evalPairs_cons (thn (hk.run pins _ σ _ _ I1 q) fun kv s1 ⟨y, H1, I2, ry, q1⟩ => ?_)
  refine wpAny_bind (thn (hv.run pins s1 σ H1 _ I2 q1) fun vv s2 ⟨v, H2, I3, rv, e2, b, k, ey, nk, hd, q2⟩ => wpAny_bind (wpAny_standAt (wpAny_pure ?_)))
  refine evalPairs_nil ?_
  subst ey
  obtain rfl : kv = Value.ref b := ry
  obtain ⟨_, _, dd⟩ := dn_of I3 e2 (fun _ h => nomatch h)
  refine ⟨[(k, b, vv)], ⟨rfl, rfl, ⟨nkey_is I3 nk rfl, hd⟩, trivial⟩, dd, fun h' tk2 dd' hs => wpAny_pure ?_⟩
  have ez : (storedAllH [] [(k, b, vv)] : List (NestedKey × Addr × Value)) = [(k, b, vv)] := by simp [storedAllH, storedH, atKey]
  rw [ez] at dd'
  obtain ⟨o, es, ep, h1, _⟩ := id dd'
  exact ⟨.ref s.heap.objs.size, _, d_write I3 (by rw [e2]; exact True.intro) hs ⟨o, h1⟩ (dn_ok dd' (by show 1 ≤ sizeLine; decide) hy), rfl, q2 vv rv⟩
end
variable [WW]
section
variable {K : PySem.W.Frag} {W : WX} {X : Cx}
def gNDisp (a b : Sl) (m : List MO) : M Sl := match a, b with
  | .val t, .val u => match nkTup t with
    | some _ => rM (.own m.length) (m ++ [.dct [(t, u)]])
    | none => none
  | _, _ => none
theorem pe_vndisp {ke ve : Expr} {fk fv : VE} {pos : Pos} (hp : X.prog = WW.p) (hw : X.w = WW.w) (hu : X.A.units + 64 < cLine) (hk : PE X ke (LE X.K W fk)) (hv : PE X ve (LE X.K W fv)) : PE X (.Dict [some ke] [ve] pos) (LE X.K W (vBin gNDisp fk fv)) := by
  have h := pe_ndisp (X := X) (pos := pos) hu hk hv
  rw [hp, hw] at h
  refine PE.imp h fun σ H Q ⟨F, A, ρ, m, w, g⟩ => fun p np => ?_
  have n0 : Nxt F A H F A (upd H p (DN WW.p WW.w p [])) := ⟨Same.refl _, List.prefix_refl _, fun _ _ e => .inl e, fun _ h => .inl h, fun a o e _ => by rw [upd_ne (ne_of_none e np)]; exact e⟩
  have w0 := w.of (Same.refl _) (List.prefix_refl _) (w.os.keep (o := DN WW.p WW.w p []) np)
  have pA : p ∉ A := w.os.notin np
  have pF : F p = none := w.os.fnone np
  refine ⟨F, A, ρ, m, w0, ?_⟩
  unfold vBin at g
  match fk ⟨ρ, m⟩, g with
  | none, g => exact none_got (show Got X.K W σ ρ F A H (rS X.K) none Q from g)
  | some (.ex C fs, m1), g =>
    have g : Got X.K W σ ρ F A H (rS X.K) (some (.ex C fs, m1)) Q := g
    obtain ⟨_, _, z, g⟩ := g
    cases z
    exact ⟨_, _, rfl, fun F' A' d vs H' n w' => g F' A' d vs H' (n0.trans n) w'⟩
  | some (.ok a, m1), g =>
    refine ⟨_, _, rfl, fun F1 A1 y H1 n1 w1 ra => ⟨F1, A1, ρ, m1, w1, ?_⟩⟩
    replace g : Got X.K W σ ρ F A H (rS X.K) (bM (fv ⟨ρ, m1⟩) fun b m2 => gNDisp a b m2) Q := g
    match fv ⟨ρ, m1⟩, g with
    | none, g => exact none_got (show Got X.K W σ ρ F A H (rS X.K) none Q from g)
    | some (.ex C fs, m2), g =>
      have g : Got X.K W σ ρ F A H (rS X.K) (some (.ex C fs, m2)) Q := g
      obtain ⟨_, _, z, g⟩ := g
      cases z
      exact ⟨_, _, rfl, fun F' A' d vs H' n w' => g F' A' d vs H' (n0.trans (n1.trans n)) w'⟩
    | some (.ok b, m2), g =>
      refine ⟨_, _, rfl, fun F2 A2 v H2 n2 w2 rb => ?_⟩
      have g3 : Got X.K W σ ρ F A H (rS X.K) (gNDisp a b m2) Q := g
      clear g
      have n12 := n1.trans n2
      have e2 : H2 p = some (DN WW.p WW.w p []) := n12.keep p _ upd_same pA
      unfold gNDisp at g3
      split at g3
      · rename_i t u
        split at g3
        · rename_i k ek
          have ra2 := ra.next n2.sub n2.pre
          obtain ⟨b', rfl, hk, hd⟩ := nkTup_at ek ra2
          refine ⟨e2, b', k, rfl, rp_nkey w2.os.sub ra2 hk, hd, fun r hr => ?_⟩
          have pF2 : F2 p = none := by
            cases z : F2 p with
            | none => rfl
            | some o =>
              rcases n12.fresh p o z with h | h | h
              · rw [pF] at h; cases h
              · rw [upd_same] at h; cases h
              · exact absurd h pA
          have pA2 : p ∉ A2 := fun h => by
            rcases n12.news p h with h | h
            · exact pA h
            · rw [upd_same] at h; cases h
          have o2 : Objs X.K F2 (A2 ++ [p]) (m2 ++ [.dct [(t, u)]]) (upd H2 p (DN WW.p WW.w p [(k, b', r)])) := (w2.os.over pF2 pA2).addO pA2 ⟨_, upd_same⟩ ⟨pF2, _, upd_same, .cons ⟨hk, hd, ra2, v, hr, rb⟩ .nil⟩
          exact g3.fin ((n0.trans n12).addp np) (w2.of (Same.refl _) (List.prefix_append A2 [p]) o2) ⟨p, by rw [← w2.os.len, List.getElem?_append_right (Nat.le_refl _), Nat.sub_self]; rfl, rfl⟩
        · exact none_got g3
      · exact none_got g3
end
end Vs
end
section
/-! Vs35: insert, truth of data, properties, len of own instances, tuple * int, is True. -/
namespace Vs
open PySem PySem.Spec PyProof.Rows L2
variable [WW]
section
variable {K : PySem.W.Frag} {W : WX} {X : Cx}
/-! ### xs.insert(i, y) -/
abbrev rInsert : V → List V → Hp → VK → Prop := fun x vs H Q => ∃ (l : Addr) (xs : List V) (i : Int) (y : V), x = .ref l ∧ vs = [.int i, y] ∧ H l = some (.lst xs) ∧ xs.length < sizeLine ∧ 0 ≤ i ∧ i < 2 ^ 63 ∧
    Q .non (upd H l (.lst (xs.take i.toNat ++ [y] ++ xs.drop i.toNat)))
def gInsert (o : Sl) (ss : List Sl) (m : List MO) : M Sl := match o, ss with
  | .own i, [.val (.int k), .val t] => match m[i]? with
    | some (.lst ts) => if ts.length < SZ ∧ 0 ≤ k ∧ k ≤ 1000000 then rM (.val .non) (m.set i (.lst (ts.take k.toNat ++ [t] ++ ts.drop k.toNat))) else none
    | _ => none
  | _, _ => none
theorem mv_insert : MetV K rInsert gInsert := by
  intro W F A ρ m σ H x xs o ss Q w ro rs g
  unfold gInsert at g
  split at g
  · rename_i i k t
    split at g
    · rename_i ts em
      split at g
      · rename_i hz
        obtain ⟨a, ea, rfl⟩ := ro
        obtain ⟨fa, ys, eh, rl⟩ := w.os.obj i a _ ea em
        cases rs with
        | cons r1 rs =>
          obtain ⟨y, rfl, ry⟩ := rpSs1 rs
          have r1 : Rp K F _ (.int k) := r1
          cases r1
          refine ⟨a, ys, k, y, rfl, rfl, eh, by rw [rl.length]; exact sz_lt hz.1, hz.2.1, by omega, ?_⟩
          exact g.fin (Nxt.write (List.mem_of_getElem? ea)) (w.of (Same.refl _) (List.prefix_refl _) (w.os.write ea fa ⟨fa, _, upd_same, ((rl.take _).append (.cons ry .nil)).append (rl.drop _)⟩)) (show RpS K F A .non (.val .non) from .non)
      · exact none_got g
    · exact none_got g
  · exact none_got g
theorem pe_vinsert {o e e2 : Expr} {fo : VE} {fa : VA} {apos cpos : Pos} (ho : PE X o (LE X.K W fo)) (ha : PA X [e, e2] (LA X.K W fa)) (hbase : attributeBase o "insert" X.env (eval o X.env) = eval o X.env := by rfl)
    (hfew : ((backTo cpos (starEach (e :: [e2]) X.env)).all (fun x => !x.1) && (backToKw cpos (keywordEach [] X.env)).all (fun x => x.1.isSome) && decide ((e :: [e2]).length + ([] : List Keyword).length + (if ([] : List Keyword).isEmpty then 0 else 1) < 30)) = true := by rfl)
    (hline : (apos.endLine == cpos.line) = true := by rfl) (hs : starEach (e :: [e2]) X.env = (false, eval e X.env) :: starEach [e2] X.env := by rfl) (hplain : (backTo cpos (starEach [e2] X.env)).any (·.1) = false := by rfl) :
    PE X (.Call (.Attribute o "insert" apos) [e, e2] [] cpos) (LE X.K W (vMet gInsert fo fa)) := PE.imp (pe_bm PySem.F.plainAttrs_list PySem.F.slot_list_insert PySem.F.type_list_insert mt_insert ho ha hbase hfew hline hs hplain) fun _ _ _ => le_met mv_insert
/-! ### truth -/
def gTru (s : Sl) (m : List MO) : Option Bool := match seqOf s m with
  | some ts => some (!ts.isEmpty)
  | none => match s with
    | .val .non => some false
    | .val (.bl b) => some b
    | .val (.int i) => some (i != 0)
    | .val (.str y) => if y.length ≤ SZ then some ((y.length : Int) != 0) else none
    | _ => none
theorem isEmpty_rp {F : Hp} {xs : List V} {ts : List T} (r : RpL K F xs ts) : ts.isEmpty = xs.isEmpty := by cases r <;> rfl
theorem gTru_at {F : Hp} {A : List Addr} {m : List MO} {H : Hp} {s : Sl} {x : V} {k : Bool} (o : Objs K F A m H) (r : RpS K F A x s) (e : gTru s m = some k) : TruV K x H k := by
  unfold gTru at e
  split at e
  · rename_i ts es
    cases e
    obtain ⟨a, xs, rfl, h1, h2⟩ := seqOf_at o r es
    rw [isEmpty_rp h2]
    exact h1.elim (fun h => .inl ⟨xs, h, rfl⟩) fun h => .inr (.inl ⟨xs, h, rfl⟩)
  · split at e
    · cases r; cases e; exact rfl
    · cases r; cases e; exact rfl
    · cases r; cases e; exact rfl
    · split at e
      · rename_i hz
        cases r; cases e; exact ⟨sz_le hz, rfl⟩
      · cases e
    · cases e
def vTruth (f : VE) : VT := fun s => bM (f s) fun r m => match gTru r m with
  | some b => rM b m
  | none => none
theorem lt_truth {f : VE} {σ : L2.St} {H : Hp} {Q : Bool → Hp → Prop} (h : LT K W (vTruth f) σ H Q) : LE K W f σ H fun x H' => ∃ k, TruV K x H' k ∧ Q k H' := by
  obtain ⟨F, A, ρ, m, w, g⟩ := h
  refine ⟨F, A, ρ, m, w, (Got.bind (R1 := rS K) g).mono fun x H1 ⟨F1, A1, m1, a, n, w1, ra, q⟩ => ?_⟩
  split at q
  · rename_i b e
    exact ⟨b, gTru_at w1.os ra e, q.now w1 rfl⟩
  · exact none_got q
theorem pt_vtruth {e : Expr} {f : VE} (h : PE X e (LE X.K W f)) (he : ∀ whole, isTrue e X.env whole = (do let v ← whole; standAt e.pos; holding [v] (truthy v)) := by intro _; rfl) : PT X e (LT X.K W (vTruth f)) := PT.imp (pt_truth h he) fun _ _ _ => lt_truth
/-! ### e.f, a property -/
def okOf (r : M Sl) : M Sl := match r with
  | some (.ok s, m) => rM s m
  | _ => none
theorem got_okOf {σ : L2.St} {ρ : List (Option Sl)} {F : Hp} {A : List Addr} {H : Hp} {r : M Sl} {Q : VK} (g : Got K W σ ρ F A H (rS K) (okOf r) Q) : Got K W0 σ ρ F A H (rS K) r Q := by
  unfold okOf at g
  split at g
  · exact ⟨_, _, rfl, fun F' A' b H' n w' rr => g.fin n w' rr⟩
  · exact none_got g
structure PR (P : Program) (w : World) (K : PySem.W.Frag) (mg : Str → Option Value) (base : Heap) (k : Nat) (C : Addr) (f : Str) (vf : VF) where
  p : Addr
  g : Addr
  fd : FuncData
  ps : List Str
  cl : Cls K C
  po : PropOf K C f p g
  fn : FnOk P w K mg base (L2.CX P w) k g fd ps (SpV K 1 vf)
  b : Binds K fd ps []
def vProp (C : Addr) (vf : VF) (fo : VE) : VE := fun s => bM (fo s) fun o m1 => match insOf o m1 with
  | some (D, _) => if D = C then okOf (callM vf [o] m1) else none
  | none => none
theorem le_prop {C : Addr} {vf : VF} {fo : VE} {σ : L2.St} {H : Hp} {Q : VK} (h : LE K W (vProp C vf fo) σ H Q) : tProp C (SpV K 1 vf) [] E0 (LE K W fo) σ H Q := by
  obtain ⟨F, A, ρ, m, w, g⟩ := h
  refine ⟨F, A, ρ, m, w, (Got.bind (R1 := rS K) g).mono fun x H1 ⟨F1, A1, m1, o, n, w1, ro, q⟩ => ?_⟩
  split at q
  · rename_i D ns e
    split at q
    · rename_i hc
      subst hc
      obtain ⟨a, dx, vs, rfl, ea, _⟩ := insOf_at w1.os ro e
      exact ⟨a, dx, vs, rfl, ea, call_got (W := W0) rfl w1 (.cons ro .nil) (got_okOf q)⟩
    · exact none_got q
  · exact none_got q
theorem pe_vprop {k : Nat} {C : Addr} {f : Str} {vf : VF} {e : Expr} {fo : VE} {pos : Pos} (R : PR X.prog X.w X.K X.mg X.base k C f vf) (hr : Room (k + 1) X.A) (ho : PE X e (LE X.K W fo)) (hab : attributeBase e f X.env (eval e X.env) = eval e X.env := by rfl) :
    PE X (.Attribute e f pos) (LE X.K W (vProp C vf fo)) := PE.imp (pe_prop ho R.cl R.po R.fn hr R.b .nil passL hab) fun _ _ _ => le_prop
/-! ### len(own) -/
def lenR (r : M Sl) : M Sl := match r with
  | some (.ok (.val (.int k)), m) => if 0 ≤ k ∧ k ≤ 1000000 then rM (.val (.int k)) m else none
  | _ => none
theorem got_len {σ : L2.St} {ρ : List (Option Sl)} {F : Hp} {A : List Addr} {H : Hp} {r : M Sl} {Q : VK} (g : Got K W σ ρ F A H (rS K) (lenR r) Q) : Got K W0 σ ρ F A H (rS K) r fun z H' => ∃ k : Int, z = .int k ∧ 0 ≤ k ∧ k < 2 ^ 63 ∧ Q z H' := by
  unfold lenR at g
  split at g
  · split at g
    · rename_i hk
      exact ⟨_, _, rfl, fun F' A' b H' n w' rr => by cases rr; exact ⟨_, rfl, hk.1, by omega, g.fin n w' (.int _)⟩⟩
    · exact none_got g
  · exact none_got g
def gLenO (ok : Addr → Bool) (vf : VF) : List Sl → List MO → M Sl
  | [s], m => match insOf s m with
    | some (C, _) => if ok C = true then lenR (callM vf [s] m) else none
    | none => none
  | _, _ => none
def LenC (K : PySem.W.Frag) (gl C : Addr) : Prop := PySem.W.findIn K (.ref C) "__len__" = some (some (.ref gl)) ∧ PySem.W.isFn K (.ref gl) = true
theorem cv_lenO {gl : Addr} {ok : Addr → Bool} {vf : VF} (hok : ∀ C, ok C = true → LenC K gl C) : CallV K (Own.rLenOwn K gl (spR K 1 vf) E0) (gLenO ok vf) := by
  intro W F A ρ m σ H xs ss Q w rs g
  unfold gLenO at g
  split at g
  · rename_i s
    split at g
    · rename_i C ns e
      split at g
      · rename_i hc
        obtain ⟨x, rfl, rx⟩ := rpSs1 rs
        obtain ⟨a, dx, vs, rfl, ea, _⟩ := insOf_at w.os rx e
        obtain ⟨h1, h2⟩ := hok C hc
        exact ⟨a, C, dx, vs, rfl, ea, h1, h2, call_got (W := W0) rfl w (.cons rx .nil) (got_len g)⟩
      · exact none_got g
    · exact none_got g
  · exact none_got g
theorem pe_vlenO {n : Nat} {gl : Addr} {fd : FuncData} {ps : List Str} {vf : VF} {f : VA} {e : Expr} {es : List Expr} {x : Str} {p pos : Pos} {ok : Addr → Bool} (F : FnOk X.prog X.w X.K X.mg X.base (L2.CX X.prog X.w) n gl fd ps (SpV X.K 1 vf)) (hb : Binds X.K fd ps []) (hok : ∀ C, ok C = true → LenC X.K gl C) (hr : Room (n + 1) X.A) (hg : Gl X x) (hm : X.mg x = none) (hv : bootBuiltins x = some (.builtin "len")) (ha : PA X (e :: es) (LA X.K W f)) (hn : x ≠ "__name__" := by decide) (hdb : (x == ("__debug__" : Str)) = false := by decide)
    (he : starEach (e :: es) X.env = (false, eval e X.env) :: starEach es X.env := by rfl) (hpl : (backTo pos (starEach es X.env)).any (·.1) = false := by rfl) : PE X (.Call (.Name x p) (e :: es) [] pos) (LE X.K W (vB (gLenO ok vf) f)) :=
  pe_vcallB (cv_lenO hok) (Own.call_lenOwn (F.raw hb .nil) hr passL) hg hm hv ha hn hdb he hpl
/-! ### x is True, x is not True -/
def gIsB (neg : Bool) : Sl → Sl → List MO → M Sl
  | .val (.bl a), .val (.bl b), m => rM (.val (.bl (if neg = true then !decide (a = b) else decide (a = b)))) m
  | _, _, _ => none
theorem ov_isB : OpV K (fun x y H Q => ∃ a b, x = .bl a ∧ y = .bl b ∧ Q (.bl (decide (a = b))) H) (gIsB false) := by
  intro W F A ρ m σ H x y a b Q w ra rb g
  unfold gIsB at g
  split at g
  · cases ra; cases rb; exact ⟨_, _, rfl, rfl, g.now w (.bl _)⟩
  · exact none_got g
theorem ov_isnotB : OpV K (fun x y H Q => ∃ a b, x = .bl a ∧ y = .bl b ∧ Q (.bl (!decide (a = b))) H) (gIsB true) := by
  intro W F A ρ m σ H x y a b Q w ra rb g
  unfold gIsB at g
  split at g
  · cases ra; cases rb; exact ⟨_, _, rfl, rfl, g.now w (.bl _)⟩
  · exact none_got g
section
variable {a b : Expr} {fa fb : VE} {pos : Pos}
theorem pe_visB (hm : behindInMarks .Is b = false) (ha : PE X a (LE X.K W fa)) (hb : PE X b (LE X.K W fb)) : PE X (.Compare a [.Is] [b] pos) (LE X.K W (vBin (gIsB false) fa fb)) := pe_vcmp op_is_bl ov_isB ha hb hm
theorem pt_visB (hm : behindInMarks .Is b = false) (ha : PE X a (LE X.K W fa)) (hb : PE X b (LE X.K W fb)) : PT X (.Compare a [.Is] [b] pos) (LT X.K W (vTest (vBin (gIsB false) fa fb))) := pt_vcmp op_is_bl ov_isB ha hb hm
theorem pe_vnotB (hm : behindInMarks .IsNot b = false) (ha : PE X a (LE X.K W fa)) (hb : PE X b (LE X.K W fb)) : PE X (.Compare a [.IsNot] [b] pos) (LE X.K W (vBin (gIsB true) fa fb)) := pe_vcmp op_isnot_bl ov_isnotB ha hb hm
theorem pt_vnotB (hm : behindInMarks .IsNot b = false) (ha : PE X a (LE X.K W fa)) (hb : PE X b (LE X.K W fb)) : PT X (.Compare a [.IsNot] [b] pos) (LT X.K W (vTest (vBin (gIsB true) fa fb))) := pt_vcmp op_isnot_bl ov_isnotB ha hb hm
end
/-! ### tuple * int -/
def gRepT (a b : Sl) (m : List MO) : M Sl := match a, b with
  | .val (.tup ts), .val (.int k) => if ts ≠ [] ∧ 2 ≤ k ∧ k ≤ 1000 ∧ ts.length ≤ 1000 then rM (.val (.tup (List.replicate k.toNat ts).flatten)) m else none
  | _, _ => none
theorem ov_repT : OpV K (rRepT K) gRepT := by
  intro W F A ρ m σ H x y a b Q w ra rb g
  unfold gRepT at g
  split at g
  · rename_i ts k
    split at g
    · rename_i h
      have ra : Rp K F _ (.tup ts) := ra
      have rb : Rp K F _ (.int k) := rb
      cases rb
      cases ra with
      | tup h1 h2 =>
        refine ⟨_, k, _, rfl, rfl, sqT_same w.os.sub h1, fun e => ?_, h.2.1, h.2.2.1, by rw [h2.length]; exact h.2.2.2, fun p np => ?_⟩
        · subst e; cases h2; exact h.1 rfl
        · have sN : ∀ o : HO, Same F (upd F p o) := fun o => same_new (w.os.fnone np)
          exact g.fin (Nxt.new w.os np) (w.of (sN _) (List.prefix_refl _) (w.os.new np)) (show Rp K _ _ _ from .tup (SqT.of upd_same) ((h2.repl _).same (sN _)))
    · exact none_got g
  · exact none_got g
theorem pe_vrepT {a b : Expr} {fa fb : VE} {pos : Pos} (ha : PE X a (LE X.K W fa)) (hb : PE X b (LE X.K W fb)) : PE X (.BinOp a .Mult b pos) (LE X.K W (vBin gRepT fa fb)) := pe_vop op_repT ov_repT ha hb
end
end Vs
end
section
/-! Vs36: lists that hold what may change: displayed, read, written. -/
namespace Vs
open PySem PySem.Spec PyProof.Rows L2
theorem RpSs.getO {K : PySem.W.Frag} {F : Hp} {A : List Addr} : ∀ {vs : List V} {ss : List Sl} {i : Nat} {t : Sl}, RpSs K F A vs ss → ss[i]? = some t → ∃ v, vs[i]? = some v ∧ RpS K F A v t
  | _, _, i, t, .nil, e => by simp at e
  | _, _, 0, t, .cons a r, e => by
    rw [List.getElem?_cons_zero] at e
    cases e
    exact ⟨_, rfl, a⟩
  | _, _, i + 1, t, .cons a r, e => by
    rw [List.getElem?_cons_succ] at e
    obtain ⟨v, h1, h2⟩ := RpSs.getO r e
    exact ⟨v, by rw [List.getElem?_cons_succ]; exact h1, h2⟩
theorem RpSs.set {K : PySem.W.Frag} {F : Hp} {A : List Addr} {v : V} {s : Sl} (rv : RpS K F A v s) : ∀ {vs : List V} {ss : List Sl} (i : Nat), RpSs K F A vs ss → RpSs K F A (vs.set i v) (ss.set i s)
  | _, _, i, .nil => .nil
  | _, _, 0, .cons a r => .cons rv r
  | _, _, i + 1, .cons a r => .cons a (RpSs.set rv i r)
variable [WW]
section
variable {K : PySem.W.Frag} {W : WX} {X : Cx}
def vLstO (f : VA) : VE := fun s => bM (f s) fun ss m => if ss.length ≤ SZ then rM (.own m.length) (m ++ [.lsO ss]) else none
theorem pe_vlstO {es : List Expr} {f : VA} {pos : Pos} (h : PA X es (LA K W f)) : PE X (.List es pos) (LE K W (vLstO f)) := PE.imp (pe_lst h) fun σ H Q ⟨F, A, ρ, m, w, g⟩ =>
  ⟨F, A, ρ, m, w, (Got.bind (R1 := fun F' A' _ vs ss => RpSs K F' A' vs ss) g).mono fun xs H1 ⟨F1, A1, m1, ss, n1, w1, rs, q⟩ => by
    by_cases z : ss.length ≤ SZ
    · rw [if_pos z] at q
      refine ⟨by rw [RpSs.length rs]; exact sz_le z, fun p np => ?_⟩
      have pA : p ∉ A1 := w1.os.notin np
      have o3 : Objs K F1 (A1 ++ [p]) (m1 ++ [.lsO ss]) (upd H1 p (.lst xs)) := (w1.os.over (w1.os.fnone np) pA).addO pA ⟨_, upd_same⟩ ⟨w1.os.fnone np, xs, upd_same, rs⟩
      exact q.fin (Nxt.refl.addp np) (w1.of (Same.refl _) (List.prefix_append _ _) o3) ⟨p, by rw [← w1.os.len, List.getElem?_append_right (Nat.le_refl _), Nat.sub_self]; rfl, rfl⟩
    · rw [if_neg z] at q; exact none_got q⟩
theorem atI_rpS {F : Hp} {A : List Addr} {vs : List V} {ss : List Sl} {i : Int} {t : Sl} (r : RpSs K F A vs ss) (e : atI ss i = some t) : ∃ v, atI vs i = some v ∧ RpS K F A v t := by
  unfold atI at e ⊢
  rw [RpSs.length r]
  cases z : ixN ss.length i with
  | none => rw [z] at e; cases e
  | some j =>
    rw [z] at e
    obtain ⟨v, h1, h2⟩ := RpSs.getO r (t := t) e
    exact ⟨v, h1, h2⟩
/-- xs[i], where xs holds what may change -/
def gIxO (a b : Sl) (m : List MO) : M Sl := match a, b with
  | .own j, .val (.int i) => match m[j]? with
    | some (.lsO ss) => match atI ss i with
      | some t => rM t m
      | none => none
    | _ => none
  | _, _ => none
theorem ov_ixO : OpV K (rIx K) gIxO := by
  intro W F A ρ m σ H x y a b Q w ra rb g
  unfold gIxO at g
  split at g
  · rename_i j i
    split at g
    · rename_i ss em
      split at g
      · rename_i t et
        obtain ⟨ad, ea, rfl⟩ := ra
        obtain ⟨fa, xs, eh, rl⟩ := w.os.obj j ad _ ea em
        have rb : Rp K F _ (.int i) := rb
        cases rb
        obtain ⟨v, h3, h4⟩ := atI_rpS rl et
        exact .inl ⟨ad, xs, i, v, rfl, rfl, SqL.of eh, h3, g.now w h4⟩
      · exact none_got g
    · exact none_got g
  · exact none_got g
theorem pe_vixO {a b : Expr} {fa fb : VE} {pos : Pos} (hs : PlainIx b) (ha : PE X a (LE X.K W fa)) (hb : PE X b (LE X.K W fb)) : PE X (.Subscript a b pos) (LE X.K W (vBin gIxO fa fb)) := PE.imp (pe_ix ix_seq ha hb hs) fun _ _ _ => le_bin ov_ixO
/-- xs[i] = v, where xs holds what may change -/
def gSetO (ρ : List (Option Sl)) (v o k : Sl) (m : List MO) : R := match o, k with
  | .own j, .val (.int i) => match m[j]? with
    | some (.lsO ss) => match ixN ss.length i with
      | some p => some (.nx, ⟨ρ, m.set j (.lsO (ss.set p v))⟩)
      | none => none
    | _ => none
  | _, _ => none
theorem setO_go {F : Hp} {A : List Addr} {ρ : List (Option Sl)} {m : List MO} {σ : L2.St} {H : Hp} {D : Ends} {v o k : Sl} {x y z : V} (w : Wd K F A ρ m σ H) (rv : RpS K F A x v) (ro : RpS K F A y o) (rk : RpS K F A z k) (q : Ran K W F A H D (gSetO ρ v o k m)) : rSetL y z x H fun H4 => D.nx σ H4 := by
  unfold gSetO at q
  split at q
  · rename_i j i
    split at q
    · rename_i ts em
      split at q
      · rename_i p ep
        obtain ⟨a, ea, rfl⟩ := ro
        obtain ⟨fa, xs, eh, rl⟩ := w.os.obj j a _ ea em
        have rk : Rp K F _ (.int i) := rk
        cases rk
        refine ⟨a, xs, i, p, rfl, rfl, eh, by rw [RpSs.length rl]; exact ep, ?_⟩
        have wr := w.os.write ea fa (u := .lst (xs.set p x)) (o := .lsO (ts.set p v)) ⟨fa, _, upd_same, rl.set rv p⟩
        exact (q.later (Nxt.write (List.mem_of_getElem? ea))).nx (w.of (Same.refl _) (List.prefix_refl _) wr)
      · exact none_ran q
    · exact none_ran q
  · exact none_ran q
def vSetO (fo fi fv : VE) : VS := fun s => bS s.ρ (fv s) fun v m1 => bS s.ρ (fo ⟨s.ρ, m1⟩) fun o m2 => bS s.ρ (fi ⟨s.ρ, m2⟩) fun k m3 => gSetO s.ρ v o k m3
theorem ps_vsetO {o i value : Expr} {fo fi fv : VE} {pos p2 : Pos} (ho : PE X o (LE X.K W fo)) (hi : PE X i (LE X.K W fi)) (hv : PE X value (LE X.K W fv))
    (ha : ∀ v, assign (.Subscript o i p2) X.env v = (do
      let ov ← holding [v] (eval o X.env)
      let iv ← holding [v, ov] (eval i X.env)
      standAt p2
      holding [v, ov, iv] (setItem ov iv v)
      release [v, ov, iv] []) := by intro _; rfl) (hs : swapsWithSole [.Subscript o i p2] value pos.line X.env = pure false := by rfl) (hw : swappedStores [.Subscript o i p2] value X.env = pure none := by rfl)
    (h1 : (assignEach [.Subscript o i p2] X.env).map (·.2) = [assign (.Subscript o i p2) X.env] := by rfl) : PS X (.Assign [.Subscript o i p2] value pos) (LS X.K W (vSetO fo fi fv)) := PS.imp (ps_asg hv (pg_sub ho hi set_list ha) hs hw h1) fun D σ H ⟨F, A, ρ, m, w, r⟩ =>
  ⟨F, A, ρ, m, w, (Ran.bS (rS X.K) r).mono fun x H1 ⟨F1, A1, m1, v, n1, w1, rv, q1⟩ => ⟨F1, A1, ρ, m1, w1, (Ran.bS (rS X.K) q1).mono fun y H2 ⟨F2, A2, m2, d, n2, w2, rd, q2⟩ => ⟨F2, A2, ρ, m2, w2, (Ran.bS (rS X.K) q2).mono fun z H3 ⟨F3, A3, m3, k, n3, w3, rk, q3⟩ =>
    setO_go w3 (rv.next (n2.sub.trans n3.sub) (List.IsPrefix.trans n2.pre n3.pre)) (rd.next n3.sub n3.pre) rk q3⟩⟩⟩
end
end Vs
end
section
/-! VsG: defs that are run where no repr runs (guards are empty): repr of nested data. -/
namespace Vs
open PySem PySem.Spec PyProof.Rows L2
variable [WW]
theorem u66 {k : Nat} {A : Around} (r : Room k A) : A.units + 66 < cLine := by have := r.un; omega
/-- what repr serves -/
def reprOk (d : PyData) : Bool := match d with
  | .list _ => PyData.showable d && !PyData.hasDict d && decide (d.depth ≤ 64) && decide ((PyData.shown d).length ≤ SZ)
  | .tuple _ => PyData.showable d && !PyData.hasDict d && decide (d.depth ≤ 64) && decide ((PyData.shown d).length ≤ SZ)
  | .str y => decide ((reprText y).length ≤ SZ)
  | .none => true
  | .int i => decide (i.natAbs.log2 < 1920)
  | .bool _ => true
  | _ => false
def rRepr (K : PySem.W.Frag) : List V → Hp → VK → Prop := fun xs H Q => ∃ (x : V) (d : PyData), xs = [x] ∧ Dp K H x d ∧ reprOk d = true ∧ Q (.str (PyData.shown d)) H
def gRepr : List Sl → List MO → M Sl
  | [s], m => match datOf s m with
    | some d => if reprOk d = true then rM (.val (.str (PyData.shown d))) m else none
    | none => none
  | _, _ => none
section
variable {K : PySem.W.Frag} {W : WX} {X : Cx}
theorem repr_nested {a : Addr} {d : PyData} {pins : List (Addr × Obj)} {s : Shared} {σ : L2.St} {H : Hp} {u : Value} {Q : VK} (hg : X.A.guards = some []) (hu : X.A.units + 66 < cLine) (I : Inv X pins σ H s) (ru : RelV (V.ref a) u) (hd : Dp X.K H (.ref a) d) (h1 : PyData.showable d = true) (h2 : PyData.hasDict d = false) (h3 : d.depth ≤ 64) (h4 : (PyData.shown d).length ≤ sizeLine) (q : Q (.str (PyData.shown d)) H) :
    wpAny (model X.prog X.w) X.A (call (.builtin "repr") [u]) (EP X pins σ Q) X.xe s := by
  obtain ⟨as, rd⟩ := Dp.reads I d _ u hd ru
  cases (show u = Value.ref a from ru)
  exact repr_of_reads' (h₀ := s.heap) rd h1 (PyData.noDict_hsm h2) hg (by omega) (fun _ _ e => e) (fun h' tx tk kp => ⟨.str _, H, I.kept (t' := tk) kp, ⟨_, rfl⟩, q⟩) h4
theorem call_repr_dat (hg : X.A.guards = some []) (hu : X.A.units + 66 < cLine) : CallR X (.builtin "repr") (rRepr X.K) := by
  intro pins s σ H xs us Q I r h
  obtain ⟨x, d, rfl, hd, ok, q⟩ := h
  cases d with
  | none => cases hd; exact Own.call_repr_none pins s σ H _ us Q I r ⟨rfl, by simpa only [PyData.shown] using q⟩
  | bool b =>
    cases hd
    obtain ⟨u, rfl, ru⟩ := r.one
    cases (show u = Value.bool b from ru)
    exact PySem.P.repr_of_bool ⟨.str _, H, I.tok _, ⟨_, rfl⟩, by simpa only [PyData.shown] using q⟩
  | int i => cases hd; exact SkE.call_repr_int pins s σ H _ us Q I r ⟨i, rfl, of_decide_eq_true ok, by simpa only [PyData.shown] using q⟩
  | str y => cases hd; exact Own.call_repr_str pins s σ H _ us Q I r ⟨y, rfl, sz_le (of_decide_eq_true ok), by simpa only [PyData.shown] using q⟩
  | list ds =>
    have ok' : (PyData.showable (.list ds) && !PyData.hasDict (.list ds) && decide ((PyData.list ds).depth ≤ 64) && decide ((PyData.shown (.list ds)).length ≤ SZ)) = true := ok
    rw [Bool.and_eq_true, Bool.and_eq_true, Bool.and_eq_true] at ok'
    obtain ⟨⟨⟨o1, o2⟩, o3⟩, o4⟩ := ok'
    obtain ⟨u, rfl, ru⟩ := r.one
    cases hd with
    | lst hs ha => exact repr_nested hg hu I ru (.lst hs ha) o1 (by simpa using o2) (of_decide_eq_true o3) (sz_le (of_decide_eq_true o4)) q
  | tuple ds =>
    have ok' : (PyData.showable (.tuple ds) && !PyData.hasDict (.tuple ds) && decide ((PyData.tuple ds).depth ≤ 64) && decide ((PyData.shown (.tuple ds)).length ≤ SZ)) = true := ok
    rw [Bool.and_eq_true, Bool.and_eq_true, Bool.and_eq_true] at ok'
    obtain ⟨⟨⟨o1, o2⟩, o3⟩, o4⟩ := ok'
    obtain ⟨u, rfl, ru⟩ := r.one
    cases hd with
    | tup hs ha => exact repr_nested hg hu I ru (.tup hs ha) o1 (by simpa using o2) (of_decide_eq_true o3) (sz_le (of_decide_eq_true o4)) q
  | dict kvs => cases ok
theorem cv_repr : CallV K (rRepr K) gRepr := by
  intro W F A ρ m σ H xs ss Q w rs g
  unfold gRepr at g
  split at g
  · split at g
    · rename_i s m' d e
      split at g
      · rename_i ok
        obtain ⟨x, rfl, rx⟩ := rpSs1 rs
        exact ⟨x, d, rfl, datOf_dp w.os rx e, ok, g.now w (.str _)⟩
      · exact none_got g
    · exact none_got g
  · exact none_got g
theorem pe_vrepr {e : Expr} {f : VA} {p pos : Pos} (hgd : X.A.guards = some []) (hu : X.A.units + 66 < cLine) (hg : Gl X "repr") (hm : X.mg "repr" = none) (ha : PA X [e] (LA X.K W f)) (he : starEach (e :: []) X.env = (false, eval e X.env) :: starEach [] X.env := by rfl) (hpl : (backTo pos (starEach [] X.env)).any (·.1) = false := by rfl) :
    PE X (.Call (.Name "repr" p) [e] [] pos) (LE X.K W (vB gRepr f)) := pe_vcallB cv_repr (call_repr_dat hgd hu) hg hm (by decide +kernel) ha (by decide) (by decide) he hpl
end
/-! ### str of a text, a number, None, a bool -/
abbrev rStrF : List V → Hp → VK → Prop := fun xs H Q => (rStrI xs H Q ∨ ∃ a, xs = [.str a] ∧ Q (.str a) H) ∨ (xs = [.non] ∧ Q (.str "None") H) ∨ ∃ b, xs = [.bl b] ∧ Q (.str (if b then "True" else "False")) H
def gStrF : List Sl → List MO → M Sl
  | [.val (.int i)], m => if i.natAbs.log2 < 1920 then rM (.val (.str (toString i))) m else none
  | [.val (.str x)], m => rM (.val (.str x)) m
  | [.val .non], m => rM (.val (.str "None")) m
  | [.val (.bl b)], m => rM (.val (.str (if b then "True" else "False"))) m
  | _, _ => none
section
variable {K : PySem.W.Frag} {X : Cx}
theorem call_str_non : CallR X (.type "str") (fun xs H Q => xs = [.non] ∧ Q (.str "None") H) := by
  intro pins s σ H xs us Q I r h
  obtain ⟨rfl, q⟩ := h
  obtain ⟨u, rfl, ru⟩ := r.one
  cases (show u = Value.none from ru)
  exact PySem.P.str_of_none ⟨.str _, H, I.tok _, ⟨_, rfl⟩, q⟩
theorem call_str_bl : CallR X (.type "str") (fun xs H Q => ∃ b, xs = [.bl b] ∧ Q (.str (if b then "True" else "False")) H) := by
  intro pins s σ H xs us Q I r h
  obtain ⟨b, rfl, q⟩ := h
  obtain ⟨u, rfl, ru⟩ := r.one
  cases (show u = Value.bool b from ru)
  exact PySem.P.str_of_bool ⟨.str _, H, I.tok _, ⟨_, rfl⟩, q⟩
theorem call_strF : CallR X (.type "str") rStrF := CallR.or' (CallR.or' call_str_int SkE.call_str_str) (CallR.or' call_str_non call_str_bl)
theorem cv_strF : CallV K rStrF gStrF := by
  intro W F A ρ m σ H xs ss Q w rs g
  unfold gStrF at g
  split at g
  · split at g
    · rename_i h
      obtain ⟨x, rfl, rx⟩ := rpSs1 rs
      cases rx
      exact .inl (.inl ⟨_, rfl, h, g.now w (.str _)⟩)
    · exact none_got g
  · obtain ⟨x, rfl, rx⟩ := rpSs1 rs
    cases rx
    exact .inl (.inr ⟨_, rfl, g.now w (.str _)⟩)
  · obtain ⟨x, rfl, rx⟩ := rpSs1 rs
    cases rx
    exact .inr (.inl ⟨rfl, g.now w (.str _)⟩)
  · obtain ⟨x, rfl, rx⟩ := rpSs1 rs
    cases rx
    exact .inr (.inr ⟨_, rfl, g.now w (.str _)⟩)
  · exact none_got g
end
/-! ### range(a, b) -/
section
variable {W : WX} {X : Cx}
theorem pi_vrange2 {tg a b : Expr} {f g : VE} {p pos : Pos} (hg : Gl X "range") (hm : X.mg "range" = none) (ha : PE X a (LE X.K W f)) (hb : PE X b (LE X.K W g)) (h1 : starEach (a :: [b]) X.env = (false, eval a X.env) :: starEach [b] X.env := by rfl) (h2 : starEach (b :: []) X.env = (false, eval b X.env) :: starEach [] X.env := by rfl) (hs : starEach [a, b] X.env = [(false, eval a X.env), (false, eval b X.env)] := by rfl) (hs2 : starEach [b] X.env = [(false, eval b X.env)] := by rfl) :
    PI X tg (.Call (.Name "range" p) [a, b] [] pos) (LI X.K W (vRange2 f g)) := PI.imp (pi_range2 hg hm (pa_cons ha (pa_cons hb pa_nil h2) h1) hs hs2) fun σ H R ⟨F, A, ρ, m, w, got⟩ =>
  ⟨F, A, ρ, m, w, (Got.bind (R1 := rS X.K) got).mono fun x H1 ⟨F1, A1, m1, a1, n1, w1, ra, q⟩ => ⟨F1, A1, ρ, m1, w1, (Got.bind (R1 := rS X.K) q).mono fun y H2 ⟨F2, A2, m2, b1, n2, w2, rb, q2⟩ => by
    unfold gRange2 at q2
    split at q2
    · split at q2
      · rename_i h
        cases ra
        cases rb
        exact ⟨_, _, rfl, ⟨by omega, by omega, by omega, by omega⟩, q2.now w2 walk_range⟩
      · obtain ⟨_, _, z, _⟩ := q2; cases z
    · obtain ⟨_, _, z, _⟩ := q2; cases z⟩⟩
end
/-! ### defs that are run where no repr runs -/
structure FnG (P : Program) (w : World) (K : PySem.W.Frag) (mg : Str → Option Value) (base : Heap) (k : Nat) (f : Addr) (fd : FuncData) (ps : List Str) (sp : Sp) : Prop where
  arity : ∀ ws G R Ex, sp ws G R Ex → ws.length = ps.length
  go : ∀ (B : Around) (up : List Env) (t : Shared) (G : Hp) (ar : Args) (xs : List Value) (ws : List V) (R : VK) (Ex : XK), Room k B → B.guards = some [] → Env0 P w K mg base B up t G → BindsTo t fd ar (ps.zip xs) → Vals ws xs → sp ws G R Ex → codeAny (model P w) B (.call (.ref f) ar) (CR (L2.CX P w) up P w G t R Ex) t
section
variable {P : Program} {w : World} {K : PySem.W.Frag} {mg : Str → Option Value} {base : Heap}
theorem okVG {x qual : Str} {st : Stmt} {f : Addr} {fd : FuncData} {N ps : List Str} {k : Nat} {b : VS} (F : Fun K x qual st f fd) (S : FnScope N ps (defScope st))
    (hb : ∀ (cdv : Value) (A : Around) (outer : List Env) (s : Shared) (H : Hp) (E : XK), Room k (A.deeper (envOfC qual (defScope st) s.heap.objs.size f cdv)) → A.guards = some [] →
      PSs (cxOf (L2.CX P w) P w K mg base N qual (defScope st) f cdv A outer s H E) (defBody st) (LS K (fun cls d _ H => E cls d H) b)) : FnG P w K mg base (k + 1) f fd ps (SpV K ps.length (vDef N.length b)) := by
  obtain ⟨oc, od, kV, doc, pm, an, cdv, ct, osl, rfl, lk, hcd⟩ := F.ex
  refine ⟨fun _ _ _ _ h => h.1, fun B up t G ar xs ws R Ex hr hg e0 hbi rv hsp => ?_⟩
  refine LamX.run_ofS lk hcd S hr e0 hbi rv hsp.1 fun hr' => ⟨_, hb cdv B up t G Ex hr' hg, ?_⟩
  obtain ⟨_, F0, A0, args, m, o, r, out, m', ev, hq⟩ := hsp
  unfold vDef at ev
  refine ⟨F0, A0, _, m, wd_start (N := N) o r, ?_⟩
  split at ev
  · rename_i rr s' eb
    cases ev
    exact ⟨_, _, eb, fun F' A' σ' v H' n w' rv => hq F' A' v H' n w'.os rv⟩
  · rename_i s' eb
    cases ev
    exact ⟨_, _, eb, fun F' A' σ' H' n w' => hq F' A' .non H' n w'.os (show Rp K F' .non .non from .non)⟩
  · rename_i C fs s' eb
    cases ev
    exact ⟨_, _, eb, fun F' A' σ' d ws H' n w' rf hd => hq F' A' d ws H' n w'.os rf hd⟩
  · cases ev
end
section
variable {X : Cx} {W : WX} {k : Nat} {f : Addr} {fd : FuncData} {ps : List Str} {sp : Sp} {E : L2.St → XK} {x : Str} {p pos : Pos} {e : Expr} {es : List Expr} {t : TA}
theorem run_fnG {pins : List (Addr × Obj)} {σ : L2.St} {H : Hp} {s : Shared} {Q : VK} {us : List Value} {vs : List V} (F : FnG X.prog X.w X.K X.mg X.base k f fd ps sp) (hr : Room k X.A) (hgd : X.A.guards = some []) (hb : Binds X.K fd ps []) (hx : PassesAt (L2.CX X.prog X.w) X σ (E σ))
    (I : Inv X pins σ H s) (r : Vals vs us) (h : sp vs H Q (E σ)) : wpAny (model X.prog X.w) X.A (call (.ref f) us) (EP X pins σ Q) X.xe s := by
  have len : us.length = ps.length := r.length.symm.trans (F.arity _ _ _ _ h)
  have bnd := hb s us I.kIn ((congrArg List.length (List.append_nil us)).trans len)
  rw [List.append_nil] at bnd
  have run := F.go X.A X.stack s H ⟨us, []⟩ us vs Q (E σ) hr hgd I.env0 bnd r h
  refine wpAny_call (codeAny_mono run fun rs s2 got => ?_)
  match rs, got with
  | .error er, got => exact hx pins H s er s2 I got
  | .ok (.ret v), got => exact I.after got
  | .ok .next, got => exact got.elim
  | .ok .brk, got => exact got.elim
  | .ok .cont, got => exact got.elim
theorem pe_callG0 (F : FnG X.prog X.w X.K X.mg X.base k f fd ps sp) (hr : Room k X.A) (hgd : X.A.guards = some []) (hg : Gl X x) (hm : X.mg x = some (.ref f)) (hk : PySem.W.keepIn X.K (.ref f) = true) (hb : Binds X.K fd ps []) (hx : ∀ σ, PassesAt (L2.CX X.prog X.w) X σ (E σ)) (hdb : (x == ("__debug__" : Str)) = false := by decide) :
    PE X (.Call (.Name x p) [] [] pos) (fun σ H Q => sp [] H Q (E σ)) := by
  constructor
  intro pins s σ H Q I h
  exact wpAny_Call_Name_kw (ld_glob I hg hm (PySem.W.callWith_K0 I.kIn hk (run_fnG (us := []) F hr hgd hb (hx σ) I .nil h)) hdb)
theorem pe_callG (F : FnG X.prog X.w X.K X.mg X.base k f fd ps sp) (hr : Room k X.A) (hgd : X.A.guards = some []) (hg : Gl X x) (hm : X.mg x = some (.ref f)) (hk : PySem.W.keepIn X.K (.ref f) = true) (hb : Binds X.K fd ps []) (hx : ∀ σ, PassesAt (L2.CX X.prog X.w) X σ (E σ))
    (ha : PA X (e :: es) t) (hdb : (x == ("__debug__" : Str)) = false := by decide) (he : starEach (e :: es) X.env = (false, eval e X.env) :: starEach es X.env := by rfl) (hpl : (backTo pos (starEach es X.env)).any (·.1) = false := by rfl) :
    PE X (.Call (.Name x p) (e :: es) [] pos) (tCallS sp E t) := by
  constructor
  intro pins s σ H Q I h
  refine wpAny_Call_Name_kw (ld_glob I hg hm (PySem.W.callWith_K (h₀ := X.base) I.ok.mod.kin hk (thn (ha.run pos pins s σ H _ I h) fun vals s2 got => ?_) he hpl) hdb)
  obtain ⟨ws, H2, I2, rv, sp2⟩ := got
  exact ⟨I2.kIn, run_fnG F hr hgd hb (hx σ) I2 rv sp2⟩
/-- as DV, where no repr runs -/
structure DG (P : Program) (w : World) (K : PySem.W.Frag) (mg : Str → Option Value) (base : Heap) (x : Str) (k np : Nat) (vf : VF) where
  a : Addr
  fd : FuncData
  ps : List Str
  m : mg x = some (.ref a)
  kp : PySem.W.keepIn K (.ref a) = true
  g : FnG P w K mg base k a fd ps (SpV K np vf)
  b : Binds K fd ps []
theorem pe_vG0 {vf : VF} (D : DG X.prog X.w X.K X.mg X.base x k 0 vf) (hr : Room k X.A) (hgd : X.A.guards = some []) (hg : Gl X x) (tk : Takes X W) (hdb : (x == ("__debug__" : Str)) = false := by decide) :
    PE X (.Call (.Name x p) [] [] pos) (LE X.K W (vCall vf vNil)) := PE.imp (pe_callG0 D.g hr hgd hg D.m D.kp D.b (fun σ => passAt tk σ) hdb) fun σ H Q ⟨F, A, ρ, m, w, g⟩ => call_got rfl w .nil g
theorem pe_vG {np : Nat} {vf : VF} {fa : VA} (D : DG X.prog X.w X.K X.mg X.base x k np vf) (hr : Room k X.A) (hgd : X.A.guards = some []) (hg : Gl X x) (tk : Takes X W) (ha : PA X (e :: es) (LA X.K W fa)) (hn : ∀ s ss m, fa s = some (.ok ss, m) → ss.length = np) (hdb : (x == ("__debug__" : Str)) = false := by decide) (he : starEach (e :: es) X.env = (false, eval e X.env) :: starEach es X.env := by rfl) (hpl : (backTo pos (starEach es X.env)).any (·.1) = false := by rfl) :
    PE X (.Call (.Name x p) (e :: es) [] pos) (LE X.K W (vCall vf fa)) := PE.imp (pe_callG D.g hr hgd hg D.m D.kp D.b (fun σ => passAt tk σ) ha hdb he hpl) fun _ _ _ => le_call hn
end
end Vs
end
section
/-! VsH: the end of a law whose def is run where no repr runs. -/
namespace Vs
open PySem PySem.Spec PyProof.Rows L2
section
variable {P : Program} {w : World} {K : PySem.W.Frag} {mg mb : Str → Option Value} {a : Addr} {t : Shared} {G : Hp}
/-- the abstract heap of the start: at most the script's list -/
structure Beg (a : Addr) (us : List Value) (t : Shared) (G : Hp) : Prop where
  only : Only G
  at_ : ∀ {b : Addr}, G b ≠ none → b = a
  lst : t.heap.get? a = some { cls := .type "list", data := .seq us.toArray }
theorem Beg.none_of {us : List Value} (B : Beg a us t G) {b : Addr} (h : b ≠ a) : G b = none := Classical.byContradiction fun z => h (B.at_ z)
theorem Beg.dict {us : List Value} (B : Beg a us t G) {b : Addr} {o : Obj} {es : Array DictEntry} {ep : Nat} (e : t.heap.get? b = some o) (d : o.data = .dict es ep) : G b = none := B.none_of fun z => by
  subst z
  rw [B.lst] at e
  cases e
  exact nomatch (show Data.seq us.toArray _ = Data.dict es ep from d)
theorem Beg.ns {us : List Value} (B : Beg a us t G) {b : Addr} {f : Str → Option Value} : t.heap.Ns b f → (hidT t.heap G).Ns b f := by
  rintro ⟨o, es, ep, e, d, r⟩
  exact ⟨o, es, ep, hidT_get e (B.dict e d), d, r⟩
theorem Beg.env {us : List Value} (B : Beg a us t G) (KX : K.In t.heap) (hns : t.heap.Ns mainGlobals mg) (hb : t.heap.Ns builtinsNs mb) (hbb : ∀ x : Str, x ≠ "__name__" → mb x = bootBuiltins x) (hlim : t.heap.NoLimit) (hg : t.gens = #[]) (hK : G a ≠ none → K.lookup a = none) (ok : HOk P w G t.heap) :
    Env0 P w K mg (hidT t.heap G) callerA [] t G where
  frames := rfl
  mod := by
    obtain ⟨mc, l1, l2⟩ := hlim
    refine ⟨fun b o e => hidT_get (KX b o e) ?_, B.ns hns, ⟨mb, B.ns hb, hbb⟩, ⟨mc, B.ns l1, l2⟩⟩
    by_cases z : b = a
    · subst z
      refine Classical.byContradiction fun n => ?_
      rw [hK n] at e
      exact nomatch e
    · exact B.none_of z
  bs := fun _ _ e => of_hidT e
  bsz := Nat.le_of_eq (hidT_size _ _)
  funs := trivial
  frf := fun _ z => nomatch z
  hok := ok
  bare := .of_eq hg
theorem Beg.fin {us : List Value} (B : Beg a us t G) (ok : HOk P w G t.heap) {r : Result} {t2 : Shared} (got : CR (L2.CX P w) [] P w G t (fun v _ => v = .bl true) (fun _ _ _ => False) r t2) : r = .ok (.ret (.bool true)) ∧ OldK t.heap t2.heap ∧ t2.os = t.os ∧ AllBare t2.gens := by
  match r, got with
  | .error er, got => exact (@cx_end ⟨P, w⟩ P w _ _ _ _ got).elim
  | .ok .next, got => exact got.elim
  | .ok .brk, got => exact got.elim
  | .ok .cont, got => exact got.elim
  | .ok (.ret u), ⟨v, G2, os, bare, un, ok2, rv, eq⟩ =>
    cases (show v = V.bl true from eq)
    cases (show u = Value.bool true from rv)
    refine ⟨rfl, OldK.of_keep (fun b o e => ?_), os, bare⟩
    by_cases z : G b = none
    · exact un.keep b o e z (fun n => nomatch n) (fun n => nomatch n)
    · rcases B.only b with n | ⟨ob, xs, n⟩
      · exact (z n).elim
      · have g1 := (ok b _ n).1
        have g2 := (ok2 b _ (un.frzs b ob _ n)).1
        rw [e] at g1
        cases g1
        exact g2
theorem law_callG {k : Nat} {fa : Addr} {fd : FuncData} {x : Str} {sp : Sp} {us : List Value} {ns : List Int}
    (KX : K.In t.heap) (hns : t.heap.Ns mainGlobals mg) (hb : t.heap.Ns builtinsNs mb) (hbb : ∀ x : Str, x ≠ "__name__" → mb x = bootBuiltins x) (hlim : t.heap.NoLimit) (hg : t.gens = #[])
    (ha : t.heap.get? a = some { cls := .type "list", data := .seq us.toArray }) (hi : IntsAre us ns) (hl : ns.length ≤ sizeLine) (hr : Room k callerA)
    (F : ∀ base : Heap, FnG P w K mg base k fa fd [x] sp) (hbind : ∀ (s : Shared) (u : Value), BindsTo s fd ⟨[u], []⟩ [(x, u)])
    (hsp : ∀ H : Hp, SqL K H a (ns.map V.int) → sp [.ref a] H (fun v _ => v = .bl true) fun _ _ _ => False) :
    codeAny (model P w) callerA (.call (.ref fa) ⟨[.ref a], []⟩) (fun r s' => r = .ok (.ret (.bool true)) ∧ OldK t.heap s'.heap ∧ s'.os = t.os ∧ AllBare s'.gens) t := by
  have rv := vals_ints hi
  have step : ∀ G : Hp, Beg a us t G → SqL K G a (ns.map V.int) → HOk P w G t.heap → (G a ≠ none → K.lookup a = none) →
      codeAny (model P w) callerA (.call (.ref fa) ⟨[.ref a], []⟩) (fun r s' => r = .ok (.ret (.bool true)) ∧ OldK t.heap s'.heap ∧ s'.os = t.os ∧ AllBare s'.gens) t := by
    intro G B hS ok hK
    have run := (F (hidT t.heap G)).go callerA [] t G ⟨[.ref a], []⟩ [.ref a] [.ref a] _ _ hr rfl (B.env KX hns hb hbb hlim hg hK ok) (hbind t (.ref a)) (.cons rfl .nil) (hsp G hS)
    exact codeAny_mono run fun r t2 got => B.fin ok got
  by_cases hk : K.lookup a = none
  · let L : Obj := { cls := .type "list", data := .seq us.toArray }
    let G : Hp := fun b => if b = a then some (.frz L (.lst (ns.map V.int))) else none
    have ga : G a = some (.frz L (.lst (ns.map V.int))) := if_pos rfl
    have gn : ∀ {b : Addr}, b ≠ a → G b = none := fun h => if_neg h
    have inv : ∀ {b : Addr}, G b ≠ none → b = a := fun {b} z => Classical.byContradiction fun h => z (gn h)
    refine step G ⟨fun b => ?_, inv, ha⟩ (.inl (.inr ⟨L, ga⟩)) (fun b u z => ?_) fun _ => hk
    · by_cases h : b = a
      · exact .inr ⟨L, _, by rw [h]; exact ga⟩
      · exact .inl (gn h)
    · have h : b = a := inv (by rw [z]; exact fun n => nomatch n)
      subst h
      cases ga.symm.trans z
      exact ⟨ha, (List.length_map (f := V.int) (as := ns)).symm ▸ hl, us, _, rv, ha⟩
  · obtain ⟨o, hk⟩ := Option.ne_none_iff_exists'.mp hk
    have same := (KX a o hk).symm.trans ha
    cases same
    refine step (fun _ => none) ⟨fun _ => .inl rfl, fun z => (z rfl).elim, ha⟩ (.inr ⟨_, us.toArray, _, hk, rfl, rfl, rfl, ?_, by simpa using rv⟩) (fun b u z => nomatch (show (none : Option HO) = some u from z)) fun z => (z rfl).elim
    have e := hi.length
    rw [List.size_toArray]
    omega
end
theorem walk_ofG {l : PySem.W.OpenLaw} {n k : Nat} {q : Program} {loose : List Str} {XP : (Str → Option Value) → Heap → Prop} {YP : World → Heap → Prop} {d : DefRec} {K : Params → PySem.W.Frag} {sp : World → Sp} {x : Str}
    (hn : l.most = some n) (hn2 : n ≤ sizeLine) (hdf : d.params.defaults = []) (hr : Room k callerA) (hY : ∀ (w : World) (h : Heap), YP w h → (K w.params).In h)
    (F : ∀ (w : World) (mg : Str → Option Value) (fa : Addr) (h : Heap), (K w.params).In h → h.Ns mainGlobals mg → mg d.name = some (.ref fa) →
      ∃ fd : FuncData, (∀ (s : Shared) (u : Value), BindsTo s fd ⟨[u], []⟩ [(x, u)]) ∧ ∀ base : Heap, FnG l.prog w (K w.params) mg base k fa fd [x] (sp w))
    (hsp : ∀ (w : World) (H : Hp) (a : Addr) (ns : List Int), ns.length ≤ n → SqL (K w.params) H a (ns.map V.int) → sp w [.ref a] H (fun v _ => v = .bl true) fun _ _ _ => False) :
    PySem.W.WalkO q loose XP YP l.row.toRowW d [] (fun f vs => PySem.call f vs) := by
  refine Att.attach_call hn hdf fun w s0 t mg mb fa o pm cd doc a us ns gr y ho hd hcd hmg hobj hints hlen hg => ?_
  have KX := hY w _ y
  obtain ⟨fd, bnd, fn⟩ := F w mg fa _ KX gr.T.g hmg
  exact law_callG KX gr.T.g gr.T.b gr.T.builtins gr.T.nolimit hg hobj hints (Nat.le_trans hlen hn2) hr fn bnd (fun G hS => hsp w G a ns hlen hS)
end Vs
end
section
/-! VsI: an own instance in (texts, tuples, None), to none of which it is equal. -/
namespace Vs
open PySem PySem.Spec PyProof.Rows L2
variable [WW]
section
variable {K : PySem.W.Frag} {W : WX} {X : Cx}
def saysNo : M Sl → Bool
  | some (.ok (.val (.bl false)), _) => true
  | _ => false
theorem saysNo_at {r : M Sl} (h : saysNo r = true) : ∃ m, r = some (.ok (.val (.bl false)), m) := by
  unfold saysNo at h
  split at h
  · exact ⟨_, rfl⟩
  · cases h
def noInst : T → Bool
  | .str _ => true
  | .non => true
  | .tup _ => true
  | _ => false
def gInO (ok : Addr → Bool) (vf : VF) : Sl → Sl → List MO → M Sl
  | .val (.ins C fs), .val (.tup ts), m => if ok C = true ∧ ts.all (fun t => noInst t && saysNo (vf [.val (.ins C fs), .val t] [])) = true then rM (.val (.bl false)) m else none
  | _, _, _ => none
/-- what is asked of the classes -/
def InOk (K : PySem.W.Frag) (ge : Addr) (ok : Addr → Bool) : Prop := ∀ C, ok C = true → (∃ gs, Own.OwnC K C gs ge) ∧ PySem.W.mroIn K C (.type "str") = some false ∧ PySem.W.mroIn K C (.type "tuple") = some false ∧ PySem.W.mroIn K C (.type "NoneType") = some false
theorem Objs.ext {F : Hp} {A : List Addr} {m : List MO} {H H' : Hp} (o : Objs K F A m H) (e : Ext H H') : Objs K F A m H' :=
  ⟨o.sub.trans e, o.len, o.nd, fun a ha => let ⟨u, h⟩ := o.there a ha; ⟨u, e _ _ h⟩, fun i a u h1 h2 => (o.obj i a u h1 h2).next (Same.refl _) (List.prefix_refl _) (fun v h => e _ _ h) id⟩
theorem Objs.empty {F : Hp} {A : List Addr} {m : List MO} {H H' : Hp} (o : Objs K F A m H) (e : Ext H H') : Objs K F [] [] H' :=
  ⟨o.sub.trans e, rfl, List.nodup_nil, fun a h => (by cases h), fun i a u h _ => (by simp at h)⟩
theorem rpL_mem {F : Hp} : ∀ {vs : List V} {ts : List T} {v : V}, RpL K F vs ts → v ∈ vs → ∃ t ∈ ts, Rp K F v t
  | _, _, _, .cons r q, h => by
    rcases List.mem_cons.mp h with rfl | h
    · exact ⟨_, List.mem_cons_self .., r⟩
    · obtain ⟨t, h1, h2⟩ := rpL_mem q h
      exact ⟨t, List.mem_cons_of_mem _ h1, h2⟩
theorem ov_inO {ge : Addr} {ok : Addr → Bool} {vf : VF} (hok : InOk K ge ok) : OpV K (Own.rInOwn K ge (spR K 2 vf) E0) (gInO ok vf) := by
  intro W F A ρ m σ H x y a b Q w ra rb g
  unfold gInO at g
  split at g
  · rename_i C fs ts
    split at g
    · rename_i hc
      obtain ⟨⟨gs, oc⟩, m1, m2, m3⟩ := hok C hc.1
      have ra' : Rp K F x (.ins C fs) := ra
      have rb' : Rp K F y (.tup ts) := rb
      cases rb' with
      | tup hq rl =>
        obtain ⟨ad, dx, vs, rfl, ea, _⟩ := insOf_at w.os ra (show insOf (.val (.ins C fs)) m = some (C, _) from rfl)
        refine ⟨ad, C, dx, vs, gs, _, _, rfl, ea, oc, m1, m2, m3, rfl, sqT_same w.os.sub hq, fun v hv => ?_, fun H' e => ?_⟩
        · obtain ⟨t, ht, rt⟩ := rpL_mem rl hv
          have all := List.all_eq_true.mp hc.2 t ht
          rw [Bool.and_eq_true] at all
          refine ⟨?_, fun H' e => ?_⟩
          · have k := all.1
            cases rt with
            | str z => exact .inl ⟨_, rfl⟩
            | non => exact .inr (.inl rfl)
            | tup h1 h2 => exact .inr (.inr ⟨_, _, rfl, sqT_same w.os.sub h1⟩)
            | _ => cases k
          · obtain ⟨m', ev⟩ := saysNo_at all.2
            refine ⟨rfl, F, [], [.val (.ins C fs), .val t], [], w.os.empty e, .cons (show RpS K F [] _ (.val (.ins C fs)) from ra') (.cons (show RpS K F [] v (.val t) from rt) .nil), _, m', ev, fun F' A' z H2 n o r => ?_⟩
            cases r
            exact ⟨rfl, fun b u h => n.keep b u h (fun q => nomatch q)⟩
        · exact g.fin ⟨Same.refl _, List.prefix_refl _, fun _ _ h => .inl h, fun _ h => .inl h, fun b u h _ => e b u h⟩ (w.of (Same.refl _) (List.prefix_refl _) (w.os.ext e)) (.bl _)
    · exact none_got g
  · exact none_got g
section
variable {n : Nat} {ge : Addr} {fd : FuncData} {ps : List Str} {vf : VF} {a b : Expr} {fa fb : VE} {pos : Pos}
theorem pt_vinO {ok : Addr → Bool} (F : FnOk X.prog X.w X.K X.mg X.base (L2.CX X.prog X.w) n ge fd ps (SpV X.K 2 vf)) (hb : Binds X.K fd ps []) (hok : InOk X.K ge ok) (hr : Room (n + 1) X.A) (ha : PE X a (LE X.K W fa)) (hb' : PE X b (LE X.K W fb)) (hm : behindInMarks .In b = false) : PT X (.Compare a [.In] [b] pos) (LT X.K W (vTest (vBin (gInO ok vf) fa fb))) :=
  pt_vcmp (Own.op_inOwn (F.raw hb .nil) hr passL) (ov_inO hok) ha hb' hm
end
end
section
variable {K : PySem.W.Frag} {ge : Addr}
theorem eqOk_of {L : List Addr} {ok : Addr → Ty → Bool} (h : ∀ C y, ok C y = true → ∃ D, y = .cls D ∧ C ∈ L ∧ D ∈ L) (own : ∀ C ∈ L, ∃ gs, Own.OwnC K C gs ge) (nf : ∀ C ∈ L, ∀ D ∈ L, PySem.W.notFirst K C (.ref D) = true) (it : ∀ D ∈ L, InsTy K D) : EqOk K ge ok := fun C y e => by
  obtain ⟨D, rfl, h1, h2⟩ := h C y e
  exact ⟨own C h1, nf C h1 D h2, fun D' e' => by cases e'; exact it D h2⟩
theorem okq_of {L : List Addr} {C : Addr} {y : Ty} (h : (match y with | .cls D => decide (C ∈ L) && decide (D ∈ L) | _ => false) = true) : ∃ D, y = .cls D ∧ C ∈ L ∧ D ∈ L := by
  split at h
  · rename_i D
    rw [Bool.and_eq_true] at h
    exact ⟨D, rfl, of_decide_eq_true h.1, of_decide_eq_true h.2⟩
  · cases h
end
end Vs
end
section
/-! Stp: one step of a function of values at a time. -/
namespace Vs
open PySem PySem.Spec PyProof.Rows L2
section
variable {s s1 : S} {m m1 m2 : List MO} {r : R} {f g : VS} {i : Nat} {a b : Sl} {t : T}
theorem st_seq (h : f s = some (.nx, s1)) (k : g s1 = r) : vSeq f g s = r := by unfold vSeq; rw [h]; exact k
theorem st_seq_rt (h : f s = some (.rt a, s1)) : vSeq f g s = some (.rt a, s1) := by unfold vSeq; rw [h]
theorem st_set {fe : VE} (h : fe s = rM a m) : vSet i fe s = some (.nx, ⟨s.ρ.set i (some a), m⟩) := by unfold vSet; rw [h]; rfl
theorem st_drop {fe : VE} (h : fe s = rM a m) : vDrop fe s = some (.nx, ⟨s.ρ, m⟩) := by unfold vDrop; rw [h]; rfl
theorem st_ret {fe : VE} (h : fe s = rM a m) : vRet fe s = some (.rt a, ⟨s.ρ, m⟩) := by unfold vRet; rw [h]; rfl
theorem st_if {c : VT} (h : c s = rM true m) (k : f ⟨s.ρ, m⟩ = r) : vIf c f g s = r := by unfold vIf; rw [h]; exact k
theorem st_ifn {c : VT} (h : c s = rM false m) (k : g ⟨s.ρ, m⟩ = r) : vIf c f g s = r := by unfold vIf; rw [h]; exact k
theorem st_put {fd fk fv : VE} {v d k : Sl} {m3 : List MO} (h1 : fv s = rM v m1) (h2 : fd ⟨s.ρ, m1⟩ = rM d m2) (h3 : fk ⟨s.ρ, m2⟩ = rM k m3) (h : gPut s.ρ v d k m3 = r) : vPut fd fk fv s = r := by unfold vPut; rw [h1]; show bS _ (fd _) _ = _; rw [h2]; show bS _ (fk _) _ = _; rw [h3]; exact h
theorem st_wh_end {c : VT} {n : Nat} (h : c s = rM false m) : vWh c f (n + 1) s = some (.nx, ⟨s.ρ, m⟩) := by rw [vWh, h]; rfl
theorem st_wh {c : VT} {n : Nat} (h : c s = rM true m) (k : f ⟨s.ρ, m⟩ = some (.nx, s1)) (z : vWh c f n s1 = r) : vWh c f (n + 1) s = r := by
  rw [vWh, h]
  simp only [bS, if_true]
  rw [k]
  exact z
theorem st_loop {gt : VG} {u : T} {us : List T} {ρ1 : List (Option Sl)} (h : gt u s.ρ = some ρ1) (k : f ⟨ρ1, s.m⟩ = some (.nx, s1)) (z : vLoop gt f us s1 = r) : vLoop gt f (u :: us) s = r := by
  rw [vLoop, h]
  show (match f ⟨ρ1, s.m⟩ with | some (.nx, s2) => _ | some (.ct, s2) => _ | some (.bk, s2) => _ | x => x) = _
  rw [k]
  exact z
theorem st_for {it : VI} {gt : VG} {us : List T} (h : it s = rM us m) (k : vLoop gt f us ⟨s.ρ, m⟩ = r) : vFor it gt f s = r := by unfold vFor; rw [h]; exact k
theorem se_var (h : s.ρ[i]? = some (some a)) : vVar i s = rM a s.m := by unfold vVar; rw [h]
theorem se_c : vC t s = rM (.val t) s.m := rfl
theorem se_bin {gg : Sl → Sl → List MO → M Sl} {fa fb : VE} {z : M Sl} (h1 : fa s = rM a m1) (h2 : fb ⟨s.ρ, m1⟩ = rM b m2) (h : gg a b m2 = z) : vBin gg fa fb s = z := by unfold vBin; rw [h1]; show bM (fb _) _ = _; rw [h2]; exact h
theorem se_val {fe : VN} {ts : List T} (h : fe s = rM ts m) : vVal fe s = rM (.val (.lst ts)) m := by unfold vVal; rw [h]; rfl
theorem se_own {fe : VN} {ts : List T} (h : fe s = rM ts m) : vOwn fe s = rM (.own m.length) (m ++ [.lst ts]) := by unfold vOwn; rw [h]; rfl
theorem se_b {gg : List Sl → List MO → M Sl} {fa : VA} {ss : List Sl} {z : M Sl} (h : fa s = rM ss m) (k : gg ss m = z) : vB gg fa s = z := by unfold vB; rw [h]; exact k
theorem se_bN {gg : List Sl → List MO → M (List T)} {fa : VA} {ss : List Sl} {z : M (List T)} (h : fa s = rM ss m) (k : gg ss m = z) : vBN gg fa s = z := by unfold vBN; rw [h]; exact k
theorem se_met0 {gg : Sl → List Sl → List MO → M Sl} {fo : VE} {z : M Sl} (h : fo s = rM a m) (hl : isLst a m = true) (k : gg a [] m = z) : vMet0 gg fo s = z := by
  unfold vMet0; rw [h]; show (if isLst a m = true then _ else _) = _; rw [if_pos hl]; exact k
theorem se_met {gg : Sl → List Sl → List MO → M Sl} {fo : VE} {fa : VA} {ss : List Sl} {z : M Sl} (h : fo s = rM a m) (hl : isLst a m = true) (h2 : fa ⟨s.ρ, m⟩ = rM ss m1) (k : gg a ss m1 = z) : vMet gg fo fa s = z := by
  unfold vMet; rw [h]; show (if isLst a m = true then _ else _) = _; rw [if_pos hl, h2]; exact k
theorem se_call {vf : VF} {fa : VA} {ss : List Sl} {z : M Sl} (h : fa s = rM ss m) (k : callM vf ss m = z) : vCall vf fa s = z := by unfold vCall; rw [h]; exact k
theorem sa_nil : vNil s = rM [] s.m := rfl
theorem sa_cons {fe : VE} {fa : VA} {ss : List Sl} (h1 : fe s = rM a m1) (h2 : fa ⟨s.ρ, m1⟩ = rM ss m2) : vCons fe fa s = rM (a :: ss) m2 := by unfold vCons; rw [h1]; show bM (fa _) _ = _; rw [h2]; rfl
theorem sc_test {fe : VE} {c : Bool} (h : fe s = rM (.val (.bl c)) m) : vTest fe s = rM c m := by unfold vTest; rw [h]; rfl
theorem sc_and {c d : VT} {z : M Bool} (h : c s = rM true m) (k : d ⟨s.ρ, m⟩ = z) : vAnd c d s = z := by unfold vAnd; rw [h]; exact k
theorem sc_andn {c d : VT} (h : c s = rM false m) : vAnd c d s = rM false m := by unfold vAnd; rw [h]; rfl
theorem si_items {fe : VE} {z : M (List T)} (h : fe s = rM a m) (k : gSeq a m = z) : vItems fe s = z := by unfold vItems; rw [h]; exact k
/-- a def's answer -/
theorem sd_rt {nl : Nat} {args : List Sl} (h : f ⟨args.map some ++ List.replicate (nl - args.length) none, m⟩ = some (.rt a, s1)) : vDef nl f args m = some (.ok a, s1.m) := by unfold vDef; rw [h]
theorem sd_nx {nl : Nat} {args : List Sl} (h : f ⟨args.map some ++ List.replicate (nl - args.length) none, m⟩ = some (.nx, s1)) : vDef nl f args m = some (.ok (.val .non), s1.m) := by unfold vDef; rw [h]
theorem g_intC {c : Int → Int → Bool} {ff : Int → Int → T} {i j : Int} (h : c i j = true) : gIntC c ff (.val (.int i)) (.val (.int j)) m = rM (.val (ff i j)) m := by unfold gIntC; simp only; rw [if_pos h]
end
/-! ### calls with what is never changed -/
theorem putFrom_nil {k : Nat} {sub : List MO} : ∀ (m : List MO) (i : Nat), putFrom [] k sub m i = m
  | [], _ => rfl
  | o :: r, i => by unfold putFrom; rw [putFrom_nil r (i + 1)]; rfl
theorem grow_nil {m : List MO} : grow m 100 [] [] = [] := rfl
theorem call_fresh {vf : VF} {as : List Sl} {sub m : List MO} {o : Out Sl} (ho : owns as = []) (hr : renSs [] as = some as) (h : vf as [] = some (o, sub)) : callM vf as m = some (backO [] m.length o, m ++ sub.map (backM [] m.length)) := by
  unfold callM
  rw [ho, grow_nil]
  simp only [List.nodup_nil, if_true, hr, renMs, h]
  show (if 0 ≤ sub.length then _ else _) = _
  rw [if_pos (Nat.zero_le _)]
  unfold putAll
  rw [putFrom_nil]
  rfl
/-- a call whose arguments own nothing: what comes, and new objects -/
theorem call_val {vf : VF} {as : List Sl} {t : T} {sub m : List MO} (ho : owns as = []) (hr : renSs [] as = some as) (h : vf as [] = some (.ok (.val t), sub)) : ∃ X, callM vf as m = rM (.val t) (m ++ X) := by
  refine ⟨sub.map (backM [] m.length), ?_⟩
  unfold callM
  rw [ho, grow_nil]
  simp only [List.nodup_nil, if_true, hr, renMs, h]
  show (if 0 ≤ sub.length then _ else _) = _
  rw [if_pos (Nat.zero_le _)]
  unfold putAll
  rw [putFrom_nil]
  rfl
end Vs
end
section
/-! Stp2: more single steps: fields, kinds, methods, own lists. -/
namespace Vs
open PySem PySem.Spec PyProof.Rows L2
section
variable {s s1 : S} {m m1 m2 m3 : List MO} {r : R} {f g : VS} {i j : Nat} {a b : Sl} {t : T} {ok : Addr → Bool} {x : Str} {C : Addr}
theorem se_fld {fe : VE} {fs : List (Str × Sl)} (h : fe s = rM (.own i) m) (e : m[i]? = some (.ins C fs)) (o : ok C = true) (l : fs.lookup x = some a) : vFld ok x fe s = rM a m := by
  unfold vFld; rw [h]; show gFld ok x (.own i) m = _
  unfold gFld
  simp only [e, o, l, if_true]
theorem se_fldV {fe : VE} {fs : List (Str × T)} (h : fe s = rM (.val (.ins C fs)) m) (o : ok C = true) (l : fs.lookup x = some t) : vFld ok x fe s = rM (.val t) m := by
  unfold vFld; rw [h]; show gFld ok x (.val (.ins C fs)) m = _
  unfold gFld
  simp only [o, l, if_true]
theorem se_isi {fe : VE} {tab : Ty → Option Bool} {y : Ty} {k : Bool} (h : fe s = rM a m) (e : tyS a m = some y) (q : tab y = some k) : vIsi tab fe s = rM (.val (.bl k)) m := by
  unfold vIsi; rw [h]; show gIsi tab a m = _
  unfold gIsi
  simp only [e, q]
theorem se_kd {fe : VE} {tab : Str → Option T} {z : Str} (h : fe s = rM (.val (.str z)) m) (e : tab z = some t) : vKd tab fe s = rM (.val t) m := by
  unfold vKd; rw [h]; show gKd tab (.val (.str z)) m = _
  unfold gKd
  simp only [e]
theorem se_meth {tb : Addr → Option VF} {fo : VE} {fa : VA} {ns : List Str} {vf : VF} {ss : List Sl} {z : M Sl} (h : fo s = rM a m1) (e : insOf a m1 = some (C, ns)) (n : x ∉ ns) (q : tb C = some vf) (h2 : fa ⟨s.ρ, m1⟩ = rM ss m2) (k : callM vf (a :: ss) m2 = z) : vMethD tb x fo fa s = z := by
  unfold vMethD; rw [h]
  show (match insOf a m1 with
    | some (C, ns) => if x ∉ ns then match tb C with
      | some vf => bM (fa ⟨s.ρ, m1⟩) fun ss m2 => callM vf (a :: ss) m2
      | none => none
      else none
    | none => none) = z
  simp only [e, q, h2]
  rw [if_pos n]
  exact k
theorem st_setF {fo fv : VE} {v : Sl} {fs : List (Str × Sl)} (h : fv s = rM v m1) (h2 : fo ⟨s.ρ, m1⟩ = rM (.own i) m2) (e : m2[i]? = some (.ins C fs)) (o : ok C = true) (l : fs.length < 1000) : vSetF ok x fo fv s = some (.nx, ⟨s.ρ, m2.set i (.ins C (putS x v fs))⟩) := by
  unfold vSetF; rw [h]; show bS s.ρ (fo ⟨s.ρ, m1⟩) _ = _; rw [h2]; show gSetF ok x s.ρ v (.own i) m2 = _
  unfold gSetF
  simp only [e]
  rw [if_pos ⟨o, l⟩]
theorem st_augF {fo fv : VE} {p q : Int} {fs : List (Str × Sl)} (h : fo s = rM (.own i) m1) (e : m1[i]? = some (.ins C fs)) (o : ok C = true) (l : fs.lookup x = some (.val (.int p))) (h2 : fv ⟨s.ρ, m1⟩ = rM (.val (.int q)) m1) (z : fs.length < 1000) :
    vAugF ok x fo fv s = some (.nx, ⟨s.ρ, m1.set i (.ins C (putS x (.val (.int (p + q))) fs))⟩) := by
  unfold vAugF; rw [h]
  have e1 : intFld ok x (.own i) m1 = some (i, C, p) := by unfold intFld; simp only [e, o, l, if_true]
  show (match intFld ok x (.own i) m1 with
    | some (i, C, a) => bS s.ρ (fv ⟨s.ρ, m1⟩) fun y m2 => gAugF s.ρ x i C a y m2
    | none => none) = _
  simp only [e1, h2]
  show gAugF s.ρ x i C p (.val (.int q)) m1 = _
  unfold gAugF
  rw [e]
  show (if C = C ∧ fs.length < 1000 then _ else _) = _
  rw [if_pos ⟨rfl, z⟩]
theorem st_augI {fo fi fv : VE} {p : Nat} {k q : Int} {ts : List T} (h : fo s = rM (.own j) m) (h2 : fi ⟨s.ρ, m⟩ = rM (.val (.int (p : Int))) m) (e : m[j]? = some (.lst ts)) (l : ts[p]? = some (.int k)) (h3 : fv ⟨s.ρ, m⟩ = rM (.val (.int q)) m) :
    vAugI fo fi fv s = some (.nx, ⟨s.ρ, m.set j (.lst (ts.set p (.int (k + q))))⟩) := by
  unfold vAugI; rw [h]; show bS s.ρ (fi ⟨s.ρ, m⟩) _ = _; rw [h2]
  have e1 : lstAt (.own j) (.val (.int (p : Int))) m = some (j, p, k) := by
    unfold lstAt
    simp only [e, if_pos (Int.natCast_nonneg p), Int.toNat_natCast, l]
  show (match lstAt (.own j) (.val (.int (p : Int))) m with
    | some (j, p, a) => bS s.ρ (fv ⟨s.ρ, m⟩) fun y m3 => gAugI s.ρ j p a y m3
    | none => none) = _
  simp only [e1, h3]
  show gAugI s.ρ j p k (.val (.int q)) m = _
  unfold gAugI
  simp only [e]
  rw [if_pos (List.getElem?_eq_some_iff.mp l).1]
theorem st_setI {fo fi fv : VE} {p : Nat} {ts : List T} (h1 : fv s = rM (.val t) m1) (h : fo ⟨s.ρ, m1⟩ = rM (.own j) m) (h2 : fi ⟨s.ρ, m⟩ = rM (.val (.int (p : Int))) m) (e : m[j]? = some (.lst ts)) (l : p < ts.length) :
    vSetI fo fi fv s = some (.nx, ⟨s.ρ, m.set j (.lst (ts.set p t))⟩) := by
  unfold vSetI; rw [h1]; show bS s.ρ (fo ⟨s.ρ, m1⟩) _ = _; rw [h]; show bS s.ρ (fi ⟨s.ρ, m⟩) _ = _; rw [h2]
  show gSetI s.ρ (.val t) (.own j) (.val (.int (p : Int))) m = _
  have ix : ixN ts.length (p : Int) = some p := by
    unfold ixN
    rw [if_pos (Int.natCast_nonneg p)]
    simp [l]
  unfold gSetI
  simp only [e, ix]
theorem st_setG {fe : VE} {gg : VG} {ρ1 : List (Option Sl)} (h : fe s = rM (.val t) m) (e : gg t s.ρ = some ρ1) : vSetG gg fe s = some (.nx, ⟨ρ1, m⟩) := by
  unfold vSetG; rw [h]
  show (match gg t s.ρ with
    | some ρ' => (some (Fl.nx, (⟨ρ', m⟩ : S)) : R)
    | none => none) = _
  rw [e]
theorem se_if {c : VT} {fa fb : VE} {z : M Sl} (h : c s = rM true m) (k : fa ⟨s.ρ, m⟩ = z) : vIfE c fa fb s = z := by unfold vIfE; rw [h]; exact k
theorem se_ifn {c : VT} {fa fb : VE} {z : M Sl} (h : c s = rM false m) (k : fb ⟨s.ρ, m⟩ = z) : vIfE c fa fb s = z := by unfold vIfE; rw [h]; exact k
theorem sc_not {c : VT} {k : Bool} (h : c s = rM k m) : vNot c s = rM (!k) m := by unfold vNot; rw [h]; rfl
theorem sc_or {c d : VT} {z : M Bool} (h : c s = rM false m) (k : d ⟨s.ρ, m⟩ = z) : vOr c d s = z := by unfold vOr; rw [h]; exact k
theorem sc_ort {c d : VT} (h : c s = rM true m) : vOr c d s = rM true m := by unfold vOr; rw [h]; rfl
theorem se_isN {fe : VE} {neg k : Bool} (h : fe s = rM a m) (e : gIsN neg a m = rM (.val (.bl k)) m) : vIsN neg fe s = rM (.val (.bl k)) m := by unfold vIsN; rw [h]; exact e
theorem se_orV {fa fb : VE} {z : M Sl} (h : fa s = rM (.val (.bl false)) m) (k : fb ⟨s.ρ, m⟩ = z) : vOrV fa fb s = z := by unfold vOrV; rw [h]; exact k
theorem se_orVt {fa fb : VE} (h : fa s = rM (.val (.bl true)) m) : vOrV fa fb s = rM (.val (.bl true)) m := by unfold vOrV; rw [h]; rfl
theorem se_tup {fa : VA} {ss : List Sl} {ts : List T} (h : fa s = rM ss m) (e : vals ss = some ts) (z : ts.length ≤ SZ) : vTup fa s = rM (.val (.tup ts)) m := by
  unfold vTup; rw [h]; show gSeqD .tup ss m = _
  unfold gSeqD
  simp only [e]
  rw [if_pos z]
/-- texts are compared -/
theorem dat_str {x y : Str} (hx : SeqAt.shaped (.str x) = true) (hy : SeqAt.shaped (.str y) = true) : gDat PyData.eqv (.val (.str x)) (.val (.str y)) m = rM (.val (.bl (decide (x = y)))) m := by
  show (if SeqAt.shaped (.str x) = true ∧ SeqAt.shaped (.str y) = true then rM (Sl.val (.bl (PyData.eqv (.str x) (.str y)))) m else none) = _
  rw [if_pos ⟨hx, hy⟩]
  congr 2
/-- whole numbers are compared -/
theorem dat_int (x y : Int) : gDat PyData.eqv (.val (.int x)) (.val (.int y)) m = rM (.val (.bl (decide (x = y)))) m := by
  show (if SeqAt.shaped (.int x) = true ∧ SeqAt.shaped (.int y) = true then rM (Sl.val (.bl (PyData.eqv (.int x) (.int y)))) m else none) = _
  rw [if_pos ⟨rfl, rfl⟩]
  congr 2
theorem st_loopO_end {gt : VG} {j n i : Nat} {ts : List T} (e : s.m[j]? = some (.lst ts)) (h : ts[i]? = none) : vLoopO gt f j (n + 1) i s = some (.nx, s) := by
  rw [vLoopO]; simp only [e, h]
theorem st_loopO_nx {gt : VG} {j n i : Nat} {ts : List T} {ρ1 : List (Option Sl)} (e : s.m[j]? = some (.lst ts)) (h : ts[i]? = some t) (g1 : gt t s.ρ = some ρ1) (k : f ⟨ρ1, s.m⟩ = some (.nx, s1)) (z : vLoopO gt f j n (i + 1) s1 = r) : vLoopO gt f j (n + 1) i s = r := by
  rw [vLoopO]; simp only [e, h, g1, k]; exact z
theorem st_loopO_rt {gt : VG} {j n i : Nat} {ts : List T} {ρ1 : List (Option Sl)} (e : s.m[j]? = some (.lst ts)) (h : ts[i]? = some t) (g1 : gt t s.ρ = some ρ1) (k : f ⟨ρ1, s.m⟩ = some (.rt a, s1)) : vLoopO gt f j (n + 1) i s = some (.rt a, s1) := by
  rw [vLoopO]; simp only [e, h, g1, k]
theorem st_forO {gt : VG} {fe : VE} (h : fe s = rM (.own j) m) (k : vLoopO gt f j 1000 0 ⟨s.ρ, m⟩ = r) : vForO fe gt f s = r := by unfold vForO; rw [h]; exact k
end
end Vs
end
section
/-! DrawP: what the laws' draws bring, by values. -/
namespace Vs
open PySem PySem.Spec PyProof.Rows L2
/-! ### lists of data -/
def Good (t : T) : Prop := ∃ d, toD t = some d ∧ d.canLay0 = true ∧ d.depth ≤ 60
theorem good_int (i : Int) : Good (.int i) := ⟨.int i, rfl, rfl, Nat.zero_le _⟩
theorem toDs_good : ∀ {us : List T}, (∀ t ∈ us, Good t) → ∃ ds, toDs us = some ds ∧ PyData.canLayAll0 ds = true ∧ PyData.depthAll ds ≤ 60 ∧ ds.length = us.length
  | [], _ => ⟨[], rfl, rfl, by decide, rfl⟩
  | t :: r, h => by
    obtain ⟨d, h1, h2, h3⟩ := h t (List.mem_cons_self ..)
    obtain ⟨ds, e1, e2, e3, e4⟩ := toDs_good (us := r) fun u hu => h u (List.mem_cons_of_mem _ hu)
    refine ⟨d :: ds, by unfold toDs; rw [h1, e1], by unfold PyData.canLayAll0; rw [h2, e2]; rfl, by unfold PyData.depthAll; omega, by rw [List.length_cons, List.length_cons, e4]⟩
/-- own list != [] -/
theorem ne_nil_own {i : Nat} {us : List T} {m : List MO} (hm : m[i]? = some (.lst us)) (h : ∀ t ∈ us, Good t) : gDat (fun d e => !PyData.eqv d e) (.own i) (.val (.lst [])) m = rM (.val (.bl (!us.isEmpty))) m := by
  obtain ⟨ds, e1, e2, e3, e4⟩ := toDs_good h
  have ed : datOf (.own i) m = some (.list ds) := by unfold datOf; simp only [hm, e1]; rfl
  have e0 : datOf (.val (.lst [])) m = some (.list []) := rfl
  have s1 : SeqAt.shaped (.list ds) = true := by
    unfold SeqAt.shaped
    rw [show (PyData.list ds).canLay0 = PyData.canLayAll0 ds from by unfold PyData.canLay0; rfl, e2]
    have : (PyData.list ds).depth ≤ 64 := by
      rw [show (PyData.list ds).depth = PyData.depthAll ds + 1 from by unfold PyData.depth; rfl]; omega
    simp [this]
  have s2 : SeqAt.shaped (.list []) = true := by decide
  unfold gDat
  rw [ed, e0]
  simp only
  rw [if_pos ⟨s1, s2⟩]
  cases us with
  | nil => cases ds with
    | nil => rfl
    | cons a r => simp at e4
  | cons u r => cases ds with
    | nil => simp at e4
    | cons a r' => rfl
theorem nil_or_last {α : Type} : ∀ l : List α, l = [] ∨ ∃ r a, l = r ++ [a]
  | [] => .inl rfl
  | a :: l => by
    rcases nil_or_last l with rfl | ⟨r, b, rfl⟩
    · exact .inr ⟨[], a, rfl⟩
    · exact .inr ⟨a :: r, b, rfl⟩
/-! ### a draw -/
abbrev dDivA : Sl → Sl → List MO → M Sl := gIntC cDiv fun i j => .int (i / j)
abbrev dModA : Sl → Sl → List MO → M Sl := gIntC cPos fun i j => .int (i % j)
abbrev dMulA : Sl → Sl → List MO → M Sl := gIntC cMul fun i j => .int (i * j)
abbrev cG : VT := vAnd (vTest (vBin (gDat fun d e => !PyData.eqv d e) (vVar 2) (vVal (vLst vNil)))) (vTest (vBin (gDat PyData.eqv) (vBin gIx (vVar 2) (vC (.int (-1)))) (vC (.int 0))))
def bDrawG (key : Str) (mu ad dv : Int) : VS := (vSeq (vSet 2 (vBin gRd (vVar 0) (vC (.str "great"))))
    (vSeq (vWh cG (vDrop (vMet0 gPop (vVar 2))) 1000)
    (vSeq (vIf (vTest (vBin (gDat fun d e => !PyData.eqv d e) (vVar 2) (vVal (vLst vNil)))) (vSeq (vSet 3 (vMet0 gPop (vVar 2)))
    (vSeq (vDrop (vMet gAppend (vVar 2) (vCons (vBin dDivA (vVar 3) (vVar 1)) vNil)))
    (vRet (vBin dModA (vB gInt1 (vCons (vVar 3) vNil)) (vVar 1))))) vNext)
    (vSeq (vPut (vVar 0) (vC (.str key)) (vBin dModA (vB gInt1 (vCons (vBin gAdd (vBin dMulA (vBin gRd (vVar 0) (vC (.str key))) (vC (.int mu))) (vC (.int ad))) vNil)) (vC (.int 2147483647))))
    (vRet (vBin dModA (vB gInt1 (vCons (vBin dDivA (vBin gRd (vVar 0) (vC (.str key))) (vC (.int dv))) vNil)) (vVar 1)))))))
/-- the deal in a store of its own -/
def dealM (key : Str) (x : Int) (gs : List Int) : List MO := [.rcd [("great", .own 1), (key, .val (.int x))], .lst (gs.map T.int)]
theorem ints_good (gs : List Int) : ∀ t ∈ gs.map T.int, Good t := fun t h => by
  obtain ⟨i, _, rfl⟩ := List.mem_map.mp h
  exact good_int i
def slD (n : Int) (o3 : Option Sl) : List (Option Sl) := [some (.own 0), some (.val (.int n)), some (.own 1), o3]
section
variable {key : Str} {x n : Int} {o3 : Option Sl}
theorem ne_nil_g (gs : List Int) : vTest (vBin (gDat fun d e => !PyData.eqv d e) (vVar 2) (vVal (vLst vNil))) ⟨slD n o3, dealM key x gs⟩ = rM (!gs.isEmpty) (dealM key x gs) :=
  sc_test (se_bin (se_var rfl) (se_val rfl) (by rw [ne_nil_own (us := gs.map T.int) rfl (ints_good gs)]; cases gs <;> rfl))
theorem last_g (l : List Int) (a : Int) : gIx (.own 1) (.val (.int (-1))) (dealM key x (l ++ [a])) = rM (.val (.int a)) (dealM key x (l ++ [a])) := by
  have sq : seqOf (.own 1) (dealM key x (l ++ [a])) = some (l.map T.int ++ [T.int a]) := by
    have el : (l ++ [a]).map T.int = l.map T.int ++ [T.int a] := by simp
    rw [← el]; rfl
  have at_ : atI (l.map T.int ++ [T.int a]) (-1) = some (T.int a) := by
    have e : ixN (l.map T.int ++ [T.int a]).length (-1) = some (l.map T.int).length := by
      unfold ixN
      rw [if_neg (by decide), if_pos (by simp; omega)]
      congr 1
      simp
      omega
    unfold atI
    rw [e]
    show (l.map T.int ++ [T.int a])[(l.map T.int).length]? = _
    rw [List.getElem?_append_right (Nat.le_refl _), Nat.sub_self]
    rfl
  unfold gIx
  simp only [sq, at_]
theorem pop_g (l : List Int) (a : Int) : gPop (.own 1) [] (dealM key x (l ++ [a])) = rM (.val (.int a)) (dealM key x l) := by
  have q : (dealM key x (l ++ [a]))[1]? = some (.lst (l.map T.int ++ [T.int a])) := by
    have el : (l ++ [a]).map T.int = l.map T.int ++ [T.int a] := by simp
    rw [← el]; rfl
  unfold gPop
  simp only [q]
  have e : (l.map T.int ++ [T.int a])[(l.map T.int ++ [T.int a]).length - 1]? = some (.int a) := by
    have : (l.map T.int ++ [T.int a]).length - 1 = (l.map T.int).length := by simp
    rw [this, List.getElem?_append_right (Nat.le_refl _), Nat.sub_self]
    rfl
  rw [e]
  simp [dealM]
theorem wh_step : ∀ (f : Nat) (gs : List Int), gs.length < f →
    ∃ gs', gs'.length ≤ gs.length ∧ vWh cG (vDrop (vMet0 gPop (vVar 2))) f ⟨slD n o3, dealM key x gs⟩ = some (.nx, ⟨slD n o3, dealM key x gs'⟩)
  | 0, gs, h => absurd h (Nat.not_lt_zero _)
  | f + 1, gs, h => by
    rcases nil_or_last gs with rfl | ⟨l, a, rfl⟩
    · exact ⟨[], Nat.le_refl _, st_wh_end (sc_andn (ne_nil_g []))⟩
    · have e1 : (!(l ++ [a]).isEmpty) = true := by simp
      have c1 := ne_nil_g (key := key) (x := x) (n := n) (o3 := o3) (l ++ [a])
      rw [e1] at c1
      have c2 : vTest (vBin (gDat PyData.eqv) (vBin gIx (vVar 2) (vC (.int (-1)))) (vC (.int 0))) ⟨slD n o3, dealM key x (l ++ [a])⟩ = rM (a == 0) (dealM key x (l ++ [a])) :=
        sc_test (se_bin (se_bin (se_var rfl) se_c (last_g l a)) se_c rfl)
      by_cases ha : a = 0
      · obtain ⟨gs', h1, h2⟩ := wh_step f l (by simp at h; omega)
        refine ⟨gs', by simp; omega, ?_⟩
        have e2 : (a == 0) = true := by simp [ha]
        rw [e2] at c2
        exact st_wh (sc_and c1 c2) (st_drop (se_met0 (se_var rfl) rfl (pop_g l a))) h2
      · refine ⟨l ++ [a], Nat.le_refl _, ?_⟩
        have e2 : (a == 0) = false := by simp [ha]
        rw [e2] at c2
        exact st_wh_end (sc_and c1 c2)
end
theorem draw_ok {key : Str} {mu ad dv x n : Int} {gs : List Int} (hk : key ≠ "great") (hg : gs.length ≤ 900) (hx : 0 ≤ x ∧ x < 2147483647) (hn : 0 < n ∧ n < 1073741824) (hd : 0 < dv ∧ dv < 1073741824) :
    ∃ r x' gs', vDef 4 (bDrawG key mu ad dv) [.own 0, .val (.int n)] (dealM key x gs) = some (.ok (.val (.int r)), dealM key x' gs') ∧ (0 ≤ r ∧ r < n) ∧ (0 ≤ x' ∧ x' < 2147483647) ∧ gs'.length ≤ gs.length := by
  obtain ⟨g1, l1, w1⟩ := wh_step (key := key) (x := x) (n := n) (o3 := none) 1000 gs (by omega)
  have kb : (key == ("great" : Str)) = false := beq_eq_false_iff_ne.mpr hk
  have s1 : vSet 2 (vBin gRd (vVar 0) (vC (.str "great"))) ⟨[some (.own 0), some (.val (.int n)), none, none], dealM key x gs⟩ = some (.nx, ⟨slD n none, dealM key x gs⟩) :=
    st_set (se_bin (se_var rfl) se_c rfl)
  have cd : ∀ i : Int, cDiv i n = true := fun i => by unfold cDiv; simp; omega
  have cp : ∀ i : Int, cPos i n = true := fun i => by unfold cPos; simp; omega
  rcases nil_or_last g1 with rfl | ⟨l, a, rfl⟩
  · let x' := (x * mu + ad) % 2147483647
    have hx' : 0 ≤ x' ∧ x' < 2147483647 := ⟨Int.emod_nonneg _ (by decide), Int.emod_lt_of_pos _ (by decide)⟩
    refine ⟨(x' / dv) % n, x', [], ?_, ⟨Int.emod_nonneg _ (by omega), Int.emod_lt_of_pos _ hn.1⟩, hx', Nat.zero_le _⟩
    have cm : cMul x mu = true := by unfold cMul; simp; omega
    have rd : ∀ y : Int, gRd (.own 0) (.val (.str key)) (dealM key y []) = rM (.val (.int y)) (dealM key y []) := fun y => by
      unfold gRd dealM
      simp [List.lookup, kb]
    have put : gPut (slD n none) (.val (.int x')) (.own 0) (.val (.str key)) (dealM key x []) = some (.nx, ⟨slD n none, dealM key x' []⟩) := by
      unfold gPut dealM
      simp [putL, hk, Ne.symm hk, beq_eq_false_iff_ne.mpr (Ne.symm hk)]
      decide
    refine sd_rt (f := bDrawG key mu ad dv) (s1 := ⟨slD n none, dealM key x' []⟩) ?_
    exact st_seq s1 (st_seq w1 (st_seq (st_ifn (ne_nil_g []) rfl)
      (st_seq (st_put (se_bin (se_b (sa_cons (se_bin (se_bin (se_bin (se_var rfl) se_c (rd x)) se_c (g_intC cm)) se_c rfl) sa_nil) rfl) se_c rfl) (se_var rfl) se_c put)
        (st_ret (se_bin (se_b (sa_cons (se_bin (se_bin (se_var rfl) se_c (rd x')) se_c (g_intC (by unfold cDiv; simp; omega))) sa_nil) rfl) (se_var rfl) (g_intC (cp _)))))))
  · refine ⟨a % n, x, l ++ [a / n], ?_, ⟨Int.emod_nonneg _ (by omega), Int.emod_lt_of_pos _ hn.1⟩, hx, by simp at l1 ⊢; omega⟩
    have e1 : (!(l ++ [a]).isEmpty) = true := by simp
    have c1 := ne_nil_g (key := key) (x := x) (n := n) (o3 := none) (l ++ [a])
    rw [e1] at c1
    have ap : gAppend (.own 1) [.val (.int (a / n))] (dealM key x l) = rM (.val .non) (dealM key x (l ++ [a / n])) := by
      unfold gAppend
      show (if (l.map T.int).length < SZ then _ else _) = _
      rw [if_pos (by have : SZ = 1000000 := rfl; simp at l1 ⊢; omega)]
      simp [dealM]
    refine sd_rt (f := bDrawG key mu ad dv) (s1 := ⟨slD n (some (.val (.int a))), dealM key x (l ++ [a / n])⟩) ?_
    refine st_seq s1 (st_seq w1 (st_seq_rt (st_if c1 ?_)))
    exact st_seq (s1 := ⟨slD n (some (.val (.int a))), dealM key x l⟩) (st_set (se_met0 (se_var rfl) rfl (pop_g l a)))
      (st_seq (st_drop (se_met (se_var rfl) rfl (sa_cons (se_bin (se_var rfl) (se_var rfl) (g_intC (cd a))) sa_nil) ap))
        (st_ret (se_bin (se_b (sa_cons (se_var rfl) sa_nil) rfl) (se_var rfl) (g_intC (cp a)))))
end Vs
end
section
/-! MixP: calls that are lent a deal; mixed. -/
namespace Vs
open PySem PySem.Spec PyProof.Rows L2
section
variable {key : Str} {x : Int} {gs : List Int} {m : List MO} {d g : Nat} {us : List T}
theorem grow_deal (hd : m[d]? = some (.rcd [("great", .own g), (key, .val (.int x))])) (hg : m[g]? = some (.lst us)) (ne : g ≠ d) : grow m 100 [d] [] = [d, g] := by
  show grow m (99 + 1) [d] [] = _
  unfold grow
  rw [if_neg (by simp), hd]
  show grow m (98 + 1) [g] [d] = _
  unfold grow
  rw [if_neg (by simpa using ne), hg]
  rfl
/-- arguments that own nothing -/
def Vals0 (ss : List Sl) : Prop := ∀ s ∈ ss, ∃ t, s = .val t
theorem owns0 : ∀ {ss : List Sl}, Vals0 ss → owns ss = []
  | [], _ => rfl
  | s :: r, h => by
    obtain ⟨t, rfl⟩ := h s (List.mem_cons_self ..)
    show owns r = []
    exact owns0 fun u hu => h u (List.mem_cons_of_mem _ hu)
theorem ren0 {ids : List Nat} : ∀ {ss : List Sl}, Vals0 ss → renSs ids ss = some ss
  | [], _ => rfl
  | s :: r, h => by
    obtain ⟨t, rfl⟩ := h s (List.mem_cons_self ..)
    unfold renSs
    rw [ren0 fun u hu => h u (List.mem_cons_of_mem _ hu)]
    rfl
theorem v0n : Vals0 [] := fun _ h => nomatch h
theorem v0c {t : T} {ss : List Sl} (h : Vals0 ss) : Vals0 (.val t :: ss) := fun s hs => by
  rcases List.mem_cons.mp hs with rfl | hs
  · exact ⟨t, rfl⟩
  · exact h s hs
theorem call_deal {vf : VF} {vals : List Sl} {t : T} {sub' : List MO} (hd : m[d]? = some (.rcd [("great", .own g), (key, .val (.int x))])) (hg : m[g]? = some (.lst (gs.map T.int))) (ne : g ≠ d) (hv : Vals0 vals)
    (h : vf (.own 0 :: vals) (dealM key x gs) = some (.ok (.val t), sub')) (h2 : 2 ≤ sub'.length) : callM vf (.own d :: vals) m = rM (.val t) (putAll [d, g] m sub') := by
  unfold callM
  have eo : owns (.own d :: vals) = [d] := by show d :: owns vals = _; rw [owns0 hv]
  rw [eo, grow_deal hd hg ne]
  have nd : [d, g].Nodup := by simp [Ne.symm ne]
  have er : renSs [d, g] (.own d :: vals) = some (.own 0 :: vals) := by
    unfold renSs
    rw [ren0 hv]
    have : renS [d, g] (.own d) = some (.own 0) := by
      show Option.map Sl.own (if d = d then some 0 else _) = _
      rw [if_pos rfl]
      rfl
    rw [this]
  have i1 : ixOf [d, g] g = some 1 := by
    unfold ixOf
    rw [if_neg (Ne.symm ne)]
    unfold ixOf
    rw [if_pos rfl]
    rfl
  have em : renMs [d, g] m [d, g] = some (dealM key x gs) := by
    have e1 : renM [d, g] (.rcd [("great", .own g), (key, .val (.int x))]) = some (.rcd [("great", .own 1), (key, .val (.int x))]) := by
      simp only [renM, renF, renS, i1]
      rfl
    unfold renMs
    rw [hd]
    simp only [e1]
    unfold renMs
    rw [hg]
    rfl
  simp only [if_pos nd, er, em, h]
  show (if 2 ≤ sub'.length then _ else _) = _
  rw [if_pos h2]
  rfl
theorem putFrom_rest {k : Nat} {sub : List MO} : ∀ (r : List MO) (i : Nat), 2 ≤ i → putFrom [0, 1] k sub r i = r
  | [], _, _ => rfl
  | o :: r, i, h => by
    unfold putFrom
    rw [putFrom_rest r (i + 1) (by omega)]
    have : ixOf [0, 1] i = none := by
      unfold ixOf
      rw [if_neg (by omega)]
      unfold ixOf
      rw [if_neg (by omega)]
      rfl
    rw [this]
theorem put_deal {x' : Int} {gs' : List Int} (rest : List MO) : putAll [0, 1] (dealM key x gs ++ rest) (dealM key x' gs') = dealM key x' gs' ++ rest := by
  unfold putAll
  show putFrom [0, 1] _ (dealM key x' gs') (_ :: _ :: rest) 0 ++ _ = _
  unfold putFrom
  unfold putFrom
  rw [putFrom_rest rest _ (by omega)]
  show (_ :: _ :: rest) ++ [] = _
  rw [List.append_nil]
  rfl
/-- .. in a store that begins with the deal -/
theorem call_deal0 {vf : VF} {vals : List Sl} {t : T} {x' : Int} {gs' : List Int} {rest : List MO} (hv : Vals0 vals) (h : vf (.own 0 :: vals) (dealM key x gs) = some (.ok (.val t), dealM key x' gs')) :
    callM vf (.own 0 :: vals) (dealM key x gs ++ rest) = rM (.val t) (dealM key x' gs' ++ rest) := by
  have := call_deal (m := dealM key x gs ++ rest) (d := 0) (g := 1) (key := key) (x := x) (gs := gs) rfl rfl (by decide) hv h (by simp [dealM])
  rw [put_deal] at this
  exact this
end
/-! ### mixed -/
/-- what a draw promises -/
def DrawOk (key : Str) (fd : VF) : Prop := ∀ (x n : Int) (gs : List Int), gs.length ≤ 900 → (0 ≤ x ∧ x < 2147483647) → (0 < n ∧ n < 1073741824) →
  ∃ r x' gs', fd [.own 0, .val (.int n)] (dealM key x gs) = some (.ok (.val (.int r)), dealM key x' gs') ∧ (0 ≤ r ∧ r < n) ∧ (0 ≤ x' ∧ x' < 2147483647) ∧ gs'.length ≤ gs.length
def bMixG (fd : VF) : VS := (vSeq (vFrz 3 (vFrz 2 (vPar 2 3 (vCons (vOwn (vBN gListOf (vCons (vVar 1) vNil))) (vCons (vOwn (vLst vNil)) vNil)))))
    (vSeq (vWh (vTest (vBin (gDat fun d e => !PyData.eqv d e) (vVar 2) (vVal (vLst vNil)))) (vDrop (vMet gAppend (vVar 3) (vCons (vMet gPopAt (vVar 2) (vCons (vCall fd (vCons (vVar 0) (vCons (vB gLen (vCons (vVar 2) vNil)) vNil))) vNil)) vNil))) 1000)
    (vFrz 3 (vRet (vVar 3)))))
section
variable {key : Str} {fd : VF} {us : List T}
abbrev slM (us : List T) : List (Option Sl) := [some (.own 0), some (.val (.lst us)), some (.own 2), some (.own 3)]
abbrev mM (key : Str) (x : Int) (gs : List Int) (left found : List T) : List MO := dealM key x gs ++ [.lst left, .lst found]
theorem mix_loop (hf : DrawOk key fd) (good : ∀ t ∈ us, Good t) : ∀ (f : Nat) (x : Int) (gs : List Int) (left found : List T), left.length < f → left.length + found.length ≤ 900 → gs.length ≤ 900 → (0 ≤ x ∧ x < 2147483647) → (∀ t ∈ left, t ∈ us) → (∀ t ∈ found, t ∈ us) →
    ∃ x' gs' found', vWh (vTest (vBin (gDat fun d e => !PyData.eqv d e) (vVar 2) (vVal (vLst vNil)))) (vDrop (vMet gAppend (vVar 3) (vCons (vMet gPopAt (vVar 2) (vCons (vCall fd (vCons (vVar 0) (vCons (vB gLen (vCons (vVar 2) vNil)) vNil))) vNil)) vNil))) f ⟨slM us, mM key x gs left found⟩ = some (.nx, ⟨slM us, mM key x' gs' [] found'⟩)
      ∧ (∀ t ∈ found', t ∈ us) ∧ (0 ≤ x' ∧ x' < 2147483647) ∧ gs'.length ≤ gs.length ∧ found'.length = left.length + found.length
  | 0, x, gs, left, found, h, _, _, _, _, _ => absurd h (Nat.not_lt_zero _)
  | f + 1, x, gs, left, found, h, hz, hg, hx, hl, hfo => by
    have c1 : vTest (vBin (gDat fun d e => !PyData.eqv d e) (vVar 2) (vVal (vLst vNil))) ⟨slM us, mM key x gs left found⟩ = rM (!left.isEmpty) (mM key x gs left found) :=
      sc_test (se_bin (se_var rfl) (se_val rfl) (ne_nil_own (us := left) rfl fun t ht => good t (hl t ht)))
    by_cases e : left = []
    · subst e
      exact ⟨x, gs, found, st_wh_end c1, hfo, hx, Nat.le_refl _, by simp⟩
    · have e1 : (!left.isEmpty) = true := by cases left <;> simp_all
      rw [e1] at c1
      have hn : 0 < left.length := List.length_pos_iff.mpr e
      obtain ⟨r, x1, gs1, h1, hr, hx1, hg1⟩ := hf x (left.length : Int) gs hg hx ⟨by omega, by omega⟩
      have cal := call_deal0 (rest := [.lst left, .lst found]) (v0c v0n) h1
      have hj : r.toNat < left.length := by omega
      have ix : ixN left.length r = some r.toNat := by unfold ixN; rw [if_pos hr.1, if_pos (by omega)]
      have pop : gPopAt (.own 2) [.val (.int r)] (mM key x1 gs1 left found) = rM (.val left[r.toNat]) (mM key x1 gs1 (left.eraseIdx r.toNat) found) := by
        show (if left.length ≤ SZ then _ else _) = _
        rw [if_pos (by have : SZ = 1000000 := rfl; omega), ix]
        simp only
        rw [List.getElem?_eq_getElem hj]
        rfl
      have ap : gAppend (.own 3) [.val left[r.toNat]] (mM key x1 gs1 (left.eraseIdx r.toNat) found) = rM (.val .non) (mM key x1 gs1 (left.eraseIdx r.toNat) (found ++ [left[r.toNat]])) := by
        show (if found.length < SZ then _ else _) = _
        rw [if_pos (by have : SZ = 1000000 := rfl; omega)]
        rfl
      have le : (left.eraseIdx r.toNat).length = left.length - 1 := List.length_eraseIdx_of_lt hj
      obtain ⟨x', gs', fo, q1, q2, q3, q4, q5⟩ := mix_loop hf good f x1 gs1 (left.eraseIdx r.toNat) (found ++ [left[r.toNat]]) (by omega) (by rw [le, List.length_append, List.length_singleton]; omega) (by omega) hx1
        (fun t ht => hl t (List.mem_of_mem_eraseIdx ht)) (fun t ht => by
          rcases List.mem_append.mp ht with ht | ht
          · exact hfo t ht
          · rw [List.mem_singleton.mp ht]; exact hl _ (List.getElem_mem hj))
      refine ⟨x', gs', fo, st_wh c1 (st_drop (se_met (se_var rfl) rfl (sa_cons (se_met (se_var rfl) rfl (sa_cons (se_call (sa_cons (se_var rfl) (sa_cons (se_b (sa_cons (se_var rfl) sa_nil) rfl) sa_nil)) cal) sa_nil) pop) sa_nil) ap)) q1, q2, q3, by omega, ?_⟩
      rw [q5, le, List.length_append, List.length_singleton]
      omega
theorem mix_ok (hf : DrawOk key fd) (good : ∀ t ∈ us, Good t) (hu : us.length ≤ 900) {x : Int} {gs : List Int} (hg : gs.length ≤ 900) (hx : 0 ≤ x ∧ x < 2147483647) :
    ∃ fo x' gs', (∃ sub', vDef 4 (bMixG fd) [.own 0, .val (.lst us)] (dealM key x gs) = some (.ok (.val (.lst fo)), sub') ∧ sub' = dealM key x' gs' ++ [.lst [], .dead]) ∧ (∀ t ∈ fo, t ∈ us) ∧ fo.length = us.length ∧ (0 ≤ x' ∧ x' < 2147483647) ∧ gs'.length ≤ gs.length := by
  obtain ⟨x', gs', fo, q1, q2, q3, q4, q5⟩ := mix_loop hf good 1000 x gs us [] (by omega) (by simpa using hu) hg hx (fun t h => h) (fun t h => nomatch h)
  refine ⟨fo, x', gs', ⟨_, sd_rt (f := bMixG fd) (s1 := ⟨[some (.own 0), some (.val (.lst us)), some (.own 2), some (.val (.lst fo))], dealM key x' gs' ++ [.lst [], .dead]⟩) ?_, rfl⟩, q2, by simpa using q5, q3, q4⟩
  have li : vBN gListOf (vCons (vVar 1) vNil) ⟨[some (.own 0), some (.val (.lst us)), none, none], dealM key x gs⟩ = rM us (dealM key x gs) := se_bN (sa_cons (se_var rfl) sa_nil) (by
    show (if us.length ≤ SZ then _ else _) = _
    rw [if_pos (by have : SZ = 1000000 := rfl; omega)])
  have s1 : vFrz 3 (vFrz 2 (vPar 2 3 (vCons (vOwn (vBN gListOf (vCons (vVar 1) vNil))) (vCons (vOwn (vLst vNil)) vNil)))) ⟨[some (.own 0), some (.val (.lst us)), none, none], dealM key x gs⟩ = some (.nx, ⟨slM us, mM key x gs us []⟩) := by
    show vPar 2 3 _ ⟨[some (.own 0), some (.val (.lst us)), none, none], dealM key x gs⟩ = _
    unfold vPar
    rw [sa_cons (se_own li) (sa_cons (se_own rfl) sa_nil)]
    rfl
  exact st_seq s1 (st_seq q1 rfl)
end
end Vs
end
section
/-! DealP: the deal that a script makes. -/
namespace Vs
open PySem PySem.Spec PyProof.Rows L2
theorem coll_ok {g : VG} {tt : VT} {te : VE} {ρ : List (Option Sl)} {m : List MO} {F : T → Option T} : ∀ (ts acc : List T), (∀ t ∈ ts, ∃ ρ1, g t ρ = some ρ1 ∧ ((∃ u, F t = some u ∧ tt ⟨ρ1, m⟩ = rM true m ∧ te ⟨ρ1, m⟩ = rM (.val u) m) ∨ (F t = none ∧ tt ⟨ρ1, m⟩ = rM false m))) →
    acc.length + ts.length ≤ SZ → vColl g tt te ρ ts m acc = rM (acc ++ ts.filterMap F) m
  | [], acc, _, _ => by rw [vColl, List.filterMap_nil, List.append_nil]
  | t :: r, acc, h, hz => by
    obtain ⟨ρ1, e, h1⟩ := h t (List.mem_cons_self ..)
    rw [List.length_cons] at hz
    rcases h1 with ⟨u, f, c, v⟩ | ⟨f, c⟩
    · rw [vColl, e]
      simp only [c, v]
      rw [if_pos (by omega), coll_ok r (acc ++ [u]) (fun t ht => h t (List.mem_cons_of_mem _ ht)) (by rw [List.length_append, List.length_singleton]; omega), List.filterMap_cons_some f, List.append_assoc]
      rfl
    · rw [vColl, e]
      simp only [c]
      rw [coll_ok r acc (fun t ht => h t (List.mem_cons_of_mem _ ht)) (by omega), List.filterMap_cons_none f]
def absI (i : Int) : Int := if i < 0 then -i else i
def fAbs : T → Option T := fun t => match t with
  | .int i => some (.int (absI i))
  | _ => none
def fGe (b : Int) : T → Option T := fun t => match t with
  | .int i => if b ≤ i then some (.int i) else none
  | _ => none
theorem fAbs_map : ∀ ns : List Int, (ns.map T.int).filterMap fAbs = (ns.map absI).map T.int
  | [] => rfl
  | n :: r => by rw [List.map_cons, List.filterMap_cons_some (show fAbs (.int n) = some (.int (absI n)) from rfl), fAbs_map r]; rfl
theorem fGe_map (b : Int) : ∀ ns : List Int, (ns.map T.int).filterMap (fGe b) = (ns.filter fun i => decide (b ≤ i)).map T.int
  | [] => rfl
  | n :: r => by
    rw [List.map_cons]
    by_cases h : b ≤ n
    · rw [List.filterMap_cons_some (show fGe b (.int n) = some (.int n) from if_pos h), fGe_map b r, List.filter_cons_of_pos (by simpa using h)]
      rfl
    · rw [List.filterMap_cons_none (show fGe b (.int n) = none from if_neg h), fGe_map b r, List.filter_cons_of_neg (by simpa using h)]
theorem cut_ints (ns : List Int) (lo hi : Option Int) : ∃ ks : List Int, cutT (ns.map T.int) lo hi = ks.map T.int ∧ ks.length ≤ ns.length := by
  refine ⟨(ns.drop (HT.sIx (ns.map T.int).length 0 lo)).take (HT.sIx (ns.map T.int).length (ns.map T.int).length hi - HT.sIx (ns.map T.int).length 0 lo), ?_, ?_⟩
  · unfold cutT
    rw [List.map_take, List.map_drop]
  · rw [List.length_take, List.length_drop]
    omega
def bStir (mu of md : Int) : VS := vSet 3 (vBin dModA (vB gInt1 (vCons (vBin gAdd (vBin dMulA (vBin gAdd (vBin gAdd (vVar 3) (vVar 4)) (vC (.int of))) (vC (.int mu))) (vBin dModA (vB gInt1 (vCons (vVar 5) vNil)) (vC (.int md)))) vNil)) (vC (.int 2147483647)))
def bDealG (key : Str) (hi c0 cm mu of md : Int) : VS := (vSeq (vSet 2 (vVal (vComp [5] (vItems (vVal (vSliceL (vVar 0) (vPart (vVar 1)) (vPart (vC (.int hi)))))) (vgName 5) vYes (vB gAbs (vCons (vB gInt1 (vCons (vVar 5) vNil)) vNil)))))
    (vSeq (vSet 3 (vBin gAdd (vC (.int c0)) (vBin dMulA (vC (.int cm)) (vVar 1))))
    (vSeq (vFor (vEnum (vCons (vVar 2) vNil)) (vgTup [(vgName 4), (vgName 5)]) (bStir mu of md))
    (vRet (vDisp [("great", (vOwn (vRev (vVal (vComp [5] (vItems (vVar 2)) (vgName 5) (vTest (vBin (gInt fun i j => .bl (decide (j ≤ i))) (vVar 5) (vBin (gIntC cPow fun i j => .int (i ^ j.toNat)) (vC (.int 10)) (vC (.int 18))))) (vVar 5)))))), (key, (vVar 3))])))))
section
variable {mu of md : Int} {m : List MO}
theorem stir_loop (hm : -(2 ^ 64) < mu ∧ mu < 2 ^ 64) (hd : 0 < md) {a0 a1 a2 : Option Sl} : ∀ (cs : List Int) (k : Nat) (x : Int) (o4 o5 : Option Sl), (0 ≤ x ∧ x < 2147483647) →
    ∃ x' o4' o5', vLoop (vgTup [vgName 4, vgName 5]) (bStir mu of md) (numT k (cs.map T.int)) ⟨[a0, a1, a2, some (.val (.int x)), o4, o5], m⟩ = some (.nx, ⟨[a0, a1, a2, some (.val (.int x')), o4', o5'], m⟩) ∧ (0 ≤ x' ∧ x' < 2147483647)
  | [], k, x, o4, o5, hx => ⟨x, o4, o5, rfl, hx⟩
  | c :: r, k, x, o4, o5, hx => by
    let y := (((x + (k : Int)) + of) * mu + c % md) % 2147483647
    have hy : 0 ≤ y ∧ y < 2147483647 := ⟨Int.emod_nonneg _ (by decide), Int.emod_lt_of_pos _ (by decide)⟩
    obtain ⟨x', o4', o5', e, hx'⟩ := stir_loop hm hd (a0 := a0) (a1 := a1) (a2 := a2) r (k + 1) y (some (.val (.int (k : Int)))) (some (.val (.int c))) hy
    refine ⟨x', o4', o5', ?_, hx'⟩
    have cm : ∀ i : Int, cMul i mu = true := fun i => by unfold cMul; simp; omega
    have cp : ∀ i : Int, cPos i md = true := fun i => by unfold cPos; simp; omega
    exact st_loop (gt := vgTup [vgName 4, vgName 5]) (u := .tup [.int (k : Int), .int c]) (ρ1 := [a0, a1, a2, some (.val (.int x)), some (.val (.int (k : Int))), some (.val (.int c))]) rfl
      (st_set (a := .val (.int y)) (se_bin (se_b (sa_cons (se_bin (se_bin (se_bin (se_bin (se_var rfl) (se_var rfl) rfl) se_c rfl) se_c (g_intC (cm _))) (se_bin (se_b (sa_cons (se_var rfl) sa_nil) rfl) se_c (g_intC (cp _))) rfl) sa_nil) rfl) se_c rfl)) e
theorem deal_ok {key : Str} {hi c0 cm b : Int} {ns : List Int} (hk : key ≠ "great") (hl : ns.length ≤ 900) (hm : -(2 ^ 64) < mu ∧ mu < 2 ^ 64) (hd : 0 < md) (hc : -(2 ^ 64) < cm ∧ cm < 2 ^ 64) (h0 : 0 ≤ c0 + cm * b ∧ c0 + cm * b < 2147483647) :
    ∃ (x : Int) (gs : List Int), vDef 6 (bDealG key hi c0 cm mu of md) [.val (.seq (ns.map T.int)), .val (.int b)] [] = some (.ok (.own 1), [.lst (gs.map T.int), .rcd [("great", .own 0), (key, .val (.int x))]]) ∧ (0 ≤ x ∧ x < 2147483647) ∧ gs.length ≤ ns.length := by
  obtain ⟨ks, ec, lk⟩ := cut_ints ns (some b) (some hi)
  let cs := ks.map absI
  have lc : cs.length = ks.length := by simp [cs]
  have sz : SZ = 1000000 := rfl
  let s0 : List (Option Sl) := [some (.val (.seq (ns.map T.int))), some (.val (.int b)), none, none, none, none]
  have sl : vSliceL (vVar 0) (vPart (vVar 1)) (vPart (vC (.int hi))) ⟨s0, []⟩ = rM (ks.map T.int) [] := by
    show (if (ns.map T.int).length ≤ SZ then rM (cutT (ns.map T.int) (some b) (some hi)) [] else none) = _
    rw [if_pos (by simp; omega), ec]
  have k1 : vComp [5] (vItems (vVal (vSliceL (vVar 0) (vPart (vVar 1)) (vPart (vC (.int hi)))))) (vgName 5) vYes (vB gAbs (vCons (vB gInt1 (vCons (vVar 5) vNil)) vNil)) ⟨s0, []⟩ = rM (cs.map T.int) [] := by
    have e1 : vItems (vVal (vSliceL (vVar 0) (vPart (vVar 1)) (vPart (vC (.int hi))))) ⟨s0, []⟩ = rM (ks.map T.int) [] := si_items (se_val sl) rfl
    have e2 : vColl (vgName 5) vYes (vB gAbs (vCons (vB gInt1 (vCons (vVar 5) vNil)) vNil)) (wipeS s0 [5]) (ks.map T.int) [] [] = rM ([] ++ (ks.map T.int).filterMap fAbs) [] := coll_ok (F := fAbs) (ks.map T.int) [] (fun t ht => by
      obtain ⟨i, _, rfl⟩ := List.mem_map.mp ht
      exact ⟨_, rfl, .inl ⟨_, rfl, rfl, se_b (sa_cons (se_b (sa_cons (se_var rfl) sa_nil) rfl) sa_nil) rfl⟩⟩) (by simp; omega)
    unfold vComp
    rw [e1]
    refine e2.trans ?_
    rw [List.nil_append, fAbs_map]
  have s1 : vSet 2 (vVal (vComp [5] (vItems (vVal (vSliceL (vVar 0) (vPart (vVar 1)) (vPart (vC (.int hi)))))) (vgName 5) vYes (vB gAbs (vCons (vB gInt1 (vCons (vVar 5) vNil)) vNil)))) ⟨s0, []⟩ = some (.nx, ⟨s0.set 2 (some (.val (.lst (cs.map T.int)))), []⟩) := st_set (se_val k1)
  have s2 : vSet 3 (vBin gAdd (vC (.int c0)) (vBin dMulA (vC (.int cm)) (vVar 1))) ⟨s0.set 2 (some (.val (.lst (cs.map T.int)))), []⟩ = some (.nx, ⟨[some (.val (.seq (ns.map T.int))), some (.val (.int b)), some (.val (.lst (cs.map T.int))), some (.val (.int (c0 + cm * b))), none, none], []⟩) :=
    st_set (se_bin se_c (se_bin se_c (se_var rfl) (g_intC (by unfold cMul; simp; omega))) rfl)
  obtain ⟨x, o4, o5, el, hx⟩ := stir_loop (m := []) (of := of) hm hd (a0 := some (.val (.seq (ns.map T.int)))) (a1 := some (.val (.int b))) (a2 := some (.val (.lst (cs.map T.int)))) cs 0 (c0 + cm * b) none none h0
  let gs := (cs.filter fun i => decide ((10 : Int) ^ 18 ≤ i)).reverse
  have lg : gs.length ≤ ks.length := by
    show (List.reverse _).length ≤ _
    rw [List.length_reverse]
    exact Nat.le_trans (List.length_filter_le _ _) (by omega)
  refine ⟨x, gs, ?_, hx, by omega⟩
  refine sd_rt (f := bDealG key hi c0 cm mu of md) (s1 := ⟨[some (.val (.seq (ns.map T.int))), some (.val (.int b)), some (.val (.lst (cs.map T.int))), some (.val (.int x)), o4, o5], [.lst (gs.map T.int), .rcd [("great", .own 0), (key, .val (.int x))]]⟩) ?_
  refine st_seq s1 (st_seq s2 (st_seq (st_for rfl el) (st_ret ?_)))
  let sE : List (Option Sl) := [some (.val (.seq (ns.map T.int))), some (.val (.int b)), some (.val (.lst (cs.map T.int))), some (.val (.int x)), o4, o5]
  have k2 : vComp [5] (vItems (vVar 2)) (vgName 5) (vTest (vBin (gInt fun i j => .bl (decide (j ≤ i))) (vVar 5) (vBin (gIntC cPow fun i j => .int (i ^ j.toNat)) (vC (.int 10)) (vC (.int 18))))) (vVar 5) ⟨sE, []⟩ = rM ((cs.filter fun i => decide ((10 : Int) ^ 18 ≤ i)).map T.int) [] := by
    have e1 : vItems (vVar 2) ⟨sE, []⟩ = rM (cs.map T.int) [] := si_items (se_var rfl) rfl
    have e2 : vColl (vgName 5) (vTest (vBin (gInt fun i j => .bl (decide (j ≤ i))) (vVar 5) (vBin (gIntC cPow fun i j => .int (i ^ j.toNat)) (vC (.int 10)) (vC (.int 18))))) (vVar 5) (wipeS sE [5]) (cs.map T.int) [] [] = rM ([] ++ (cs.map T.int).filterMap (fGe ((10 : Int) ^ 18))) [] := coll_ok (F := fGe ((10 : Int) ^ 18)) (cs.map T.int) [] (fun t ht => by
      obtain ⟨i, _, rfl⟩ := List.mem_map.mp ht
      have pw : vBin (gIntC cPow fun i j => .int (i ^ j.toNat)) (vC (.int 10)) (vC (.int 18)) = fun s => rM (.val (.int ((10 : Int) ^ 18))) s.m := by
        funext s
        exact se_bin se_c se_c (g_intC (by decide))
      have ct : ∀ ρ1 : List (Option Sl), ρ1[5]? = some (some (.val (.int i))) → vTest (vBin (gInt fun i j => .bl (decide (j ≤ i))) (vVar 5) (vBin (gIntC cPow fun i j => .int (i ^ j.toNat)) (vC (.int 10)) (vC (.int 18)))) ⟨ρ1, []⟩ = rM (decide ((10 : Int) ^ 18 ≤ i)) [] := fun ρ1 h => by
        rw [pw]
        exact sc_test (se_bin (se_var h) rfl rfl)
      by_cases hi : (10 : Int) ^ 18 ≤ i
      · exact ⟨_, rfl, .inl ⟨_, if_pos hi, by rw [ct _ rfl, decide_eq_true hi], se_var rfl⟩⟩
      · exact ⟨_, rfl, .inr ⟨if_neg hi, by rw [ct _ rfl, decide_eq_false hi]⟩⟩) (by simp; omega)
    unfold vComp
    rw [e1]
    refine e2.trans ?_
    rw [List.nil_append, fGe_map]
  have cp : vVal (vComp [5] (vItems (vVar 2)) (vgName 5) (vTest (vBin (gInt fun i j => .bl (decide (j ≤ i))) (vVar 5) (vBin (gIntC cPow fun i j => .int (i ^ j.toNat)) (vC (.int 10)) (vC (.int 18))))) (vVar 5)) ⟨sE, []⟩ = rM (.val (.lst ((cs.filter fun i => decide ((10 : Int) ^ 18 ≤ i)).map T.int))) [] := se_val k2
  have rv : vOwn (vRev (vVal (vComp [5] (vItems (vVar 2)) (vgName 5) (vTest (vBin (gInt fun i j => .bl (decide (j ≤ i))) (vVar 5) (vBin (gIntC cPow fun i j => .int (i ^ j.toNat)) (vC (.int 10)) (vC (.int 18))))) (vVar 5)))) ⟨[some (.val (.seq (ns.map T.int))), some (.val (.int b)), some (.val (.lst (cs.map T.int))), some (.val (.int x)), o4, o5], []⟩ = rM (.own 0) [.lst (gs.map T.int)] := by
    refine se_own (m := []) (ts := gs.map T.int) ?_
    unfold vRev
    rw [cp]
    show (if ((cs.filter fun i => decide ((10 : Int) ^ 18 ≤ i)).map T.int).length ≤ SZ then _ else _) = _
    rw [if_pos (by
      rw [List.length_map]
      have := List.length_filter_le (fun i => decide ((10 : Int) ^ 18 ≤ i)) cs
      omega), ← List.map_reverse]
  unfold vDisp vRcd
  rw [rv]
  have kd : distinct [("great" : Str), key] = true := by
    unfold distinct
    simp [distinct, Ne.symm hk, beq_eq_false_iff_ne.mpr (Ne.symm hk)]
  show gDisp [("great", .own 0), (key, .val (.int x))] [.lst (gs.map T.int)] = _
  unfold gDisp
  rw [if_pos ⟨kd, by show 2 ≤ 15; decide⟩]
  rfl
end
end Vs
end
section
/-! LiveP: deals that are a list of the great numbers and a number. -/
namespace Vs
open PySem PySem.Spec PyProof.Rows L2
section
variable {s : S} {m m1 m2 m3 : List MO} {r : R}
theorem st_setO {fo fi fv : VE} {v o k : Sl} (h1 : fv s = rM v m1) (h2 : fo ⟨s.ρ, m1⟩ = rM o m2) (h3 : fi ⟨s.ρ, m2⟩ = rM k m3) (h : gSetO s.ρ v o k m3 = r) : vSetO fo fi fv s = r := by
  unfold vSetO; rw [h1]; show bS _ (fo _) _ = _; rw [h2]; show bS _ (fi _) _ = _; rw [h3]; exact h
end
/-! ### a draw -/
abbrev gO : VE := vBin gIxO (vVar 0) (vC (.int 0))
abbrev neO : VT := vTest (vBin (gDat fun d e => !PyData.eqv d e) gO (vVal (vLst vNil)))
abbrev cO : VT := vAnd neO (vTest (vBin (gDat PyData.eqv) (vBin gIx gO (vC (.int (-1)))) (vC (.int 0))))
def bDrawL (mu ad dv : Int) : VS := (vSeq (vWh cO (vDrop (vMet0 gPop gO)) 1000)
    (vSeq (vIf neO (vSeq (vSet 2 (vMet0 gPop gO))
    (vSeq (vDrop (vMet gAppend gO (vCons (vBin dDivA (vVar 2) (vVar 1)) vNil)))
    (vRet (vBin dModA (vB gInt1 (vCons (vVar 2) vNil)) (vVar 1))))) vNext)
    (vSeq (vSetO (vVar 0) (vC (.int 1)) (vBin dModA (vB gInt1 (vCons (vBin gAdd (vBin dMulA (vBin gIxO (vVar 0) (vC (.int 1))) (vC (.int mu))) (vC (.int ad))) vNil)) (vC (.int 2147483647))))
    (vRet (vBin dModA (vB gInt1 (vCons (vBin dDivA (vBin gIxO (vVar 0) (vC (.int 1))) (vC (.int dv))) vNil)) (vVar 1))))))
def dealL (x : Int) (gs : List Int) : List MO := [.lsO [.own 1, .val (.int x)], .lst (gs.map T.int)]
def slL (n : Int) (o2 : Option Sl) : List (Option Sl) := [some (.own 0), some (.val (.int n)), o2]
section
variable {x n : Int} {o2 : Option Sl}
theorem gO_ok (gs : List Int) : gO ⟨slL n o2, dealL x gs⟩ = rM (.own 1) (dealL x gs) := se_bin (se_var rfl) se_c rfl
theorem ne_nil_l (gs : List Int) : neO ⟨slL n o2, dealL x gs⟩ = rM (!gs.isEmpty) (dealL x gs) :=
  sc_test (se_bin (gO_ok gs) (se_val rfl) (by rw [ne_nil_own (us := gs.map T.int) rfl (ints_good gs)]; cases gs <;> rfl))
theorem last_l (l : List Int) (a : Int) : gIx (.own 1) (.val (.int (-1))) (dealL x (l ++ [a])) = rM (.val (.int a)) (dealL x (l ++ [a])) := by
  have sq : seqOf (.own 1) (dealL x (l ++ [a])) = some (l.map T.int ++ [T.int a]) := by
    have el : (l ++ [a]).map T.int = l.map T.int ++ [T.int a] := by simp
    rw [← el]; rfl
  have at_ : atI (l.map T.int ++ [T.int a]) (-1) = some (T.int a) := by
    have e : ixN (l.map T.int ++ [T.int a]).length (-1) = some (l.map T.int).length := by
      unfold ixN
      rw [if_neg (by decide), if_pos (by simp; omega)]
      congr 1
      simp
      omega
    unfold atI
    rw [e]
    show (l.map T.int ++ [T.int a])[(l.map T.int).length]? = _
    rw [List.getElem?_append_right (Nat.le_refl _), Nat.sub_self]
    rfl
  unfold gIx
  simp only [sq, at_]
theorem pop_l (l : List Int) (a : Int) : gPop (.own 1) [] (dealL x (l ++ [a])) = rM (.val (.int a)) (dealL x l) := by
  have q : (dealL x (l ++ [a]))[1]? = some (.lst (l.map T.int ++ [T.int a])) := by
    have el : (l ++ [a]).map T.int = l.map T.int ++ [T.int a] := by simp
    rw [← el]; rfl
  unfold gPop
  simp only [q]
  have e : (l.map T.int ++ [T.int a])[(l.map T.int ++ [T.int a]).length - 1]? = some (.int a) := by
    have : (l.map T.int ++ [T.int a]).length - 1 = (l.map T.int).length := by simp
    rw [this, List.getElem?_append_right (Nat.le_refl _), Nat.sub_self]
    rfl
  rw [e]
  simp [dealL]
theorem wh_stepL : ∀ (f : Nat) (gs : List Int), gs.length < f →
    ∃ gs', gs'.length ≤ gs.length ∧ vWh cO (vDrop (vMet0 gPop gO)) f ⟨slL n o2, dealL x gs⟩ = some (.nx, ⟨slL n o2, dealL x gs'⟩)
  | 0, gs, h => absurd h (Nat.not_lt_zero _)
  | f + 1, gs, h => by
    rcases nil_or_last gs with rfl | ⟨l, a, rfl⟩
    · exact ⟨[], Nat.le_refl _, st_wh_end (sc_andn (ne_nil_l []))⟩
    · have e1 : (!(l ++ [a]).isEmpty) = true := by simp
      have c1 := ne_nil_l (x := x) (n := n) (o2 := o2) (l ++ [a])
      rw [e1] at c1
      have c2 : vTest (vBin (gDat PyData.eqv) (vBin gIx gO (vC (.int (-1)))) (vC (.int 0))) ⟨slL n o2, dealL x (l ++ [a])⟩ = rM (a == 0) (dealL x (l ++ [a])) :=
        sc_test (se_bin (se_bin (gO_ok _) se_c (last_l l a)) se_c rfl)
      by_cases ha : a = 0
      · obtain ⟨gs', h1, h2⟩ := wh_stepL f l (by simp at h; omega)
        refine ⟨gs', by simp; omega, ?_⟩
        have e2 : (a == 0) = true := by simp [ha]
        rw [e2] at c2
        exact st_wh (sc_and c1 c2) (st_drop (se_met0 (gO_ok _) rfl (pop_l l a))) h2
      · refine ⟨l ++ [a], Nat.le_refl _, ?_⟩
        have e2 : (a == 0) = false := by simp [ha]
        rw [e2] at c2
        exact st_wh_end (sc_and c1 c2)
end
theorem drawL_ok {mu ad dv x n : Int} {gs : List Int} (hg : gs.length ≤ 900) (hx : 0 ≤ x ∧ x < 2147483647) (hn : 0 < n ∧ n < 1073741824) (hd : 0 < dv ∧ dv < 1073741824) :
    ∃ r x' gs', vDef 3 (bDrawL mu ad dv) [.own 0, .val (.int n)] (dealL x gs) = some (.ok (.val (.int r)), dealL x' gs') ∧ (0 ≤ r ∧ r < n) ∧ (0 ≤ x' ∧ x' < 2147483647) ∧ gs'.length ≤ gs.length := by
  obtain ⟨g1, l1, w1⟩ := wh_stepL (x := x) (n := n) (o2 := none) 1000 gs (by omega)
  have cd : ∀ i : Int, cDiv i n = true := fun i => by unfold cDiv; simp; omega
  have cp : ∀ i : Int, cPos i n = true := fun i => by unfold cPos; simp; omega
  rcases nil_or_last g1 with rfl | ⟨l, a, rfl⟩
  · let x' := (x * mu + ad) % 2147483647
    have hx' : 0 ≤ x' ∧ x' < 2147483647 := ⟨Int.emod_nonneg _ (by decide), Int.emod_lt_of_pos _ (by decide)⟩
    refine ⟨(x' / dv) % n, x', [], ?_, ⟨Int.emod_nonneg _ (by omega), Int.emod_lt_of_pos _ hn.1⟩, hx', Nat.zero_le _⟩
    have cm : cMul x mu = true := by unfold cMul; simp; omega
    have rd : ∀ y : Int, gIxO (.own 0) (.val (.int 1)) (dealL y []) = rM (.val (.int y)) (dealL y []) := fun y => rfl
    have put : gSetO (slL n none) (.val (.int x')) (.own 0) (.val (.int 1)) (dealL x []) = some (.nx, ⟨slL n none, dealL x' []⟩) := rfl
    refine sd_rt (f := bDrawL mu ad dv) (s1 := ⟨slL n none, dealL x' []⟩) ?_
    exact st_seq w1 (st_seq (st_ifn (ne_nil_l []) rfl)
      (st_seq (st_setO (se_bin (se_b (sa_cons (se_bin (se_bin (se_bin (se_var rfl) se_c (rd x)) se_c (g_intC cm)) se_c rfl) sa_nil) rfl) se_c rfl) (se_var rfl) se_c put)
        (st_ret (se_bin (se_b (sa_cons (se_bin (se_bin (se_var rfl) se_c (rd x')) se_c (g_intC (by unfold cDiv; simp; omega))) sa_nil) rfl) (se_var rfl) (g_intC (cp _))))))
  · refine ⟨a % n, x, l ++ [a / n], ?_, ⟨Int.emod_nonneg _ (by omega), Int.emod_lt_of_pos _ hn.1⟩, hx, by simp at l1 ⊢; omega⟩
    have e1 : (!(l ++ [a]).isEmpty) = true := by simp
    have c1 := ne_nil_l (x := x) (n := n) (o2 := none) (l ++ [a])
    rw [e1] at c1
    have ap : gAppend (.own 1) [.val (.int (a / n))] (dealL x l) = rM (.val .non) (dealL x (l ++ [a / n])) := by
      unfold gAppend
      show (if (l.map T.int).length < SZ then _ else _) = _
      rw [if_pos (by have : SZ = 1000000 := rfl; simp at l1 ⊢; omega)]
      simp [dealL]
    refine sd_rt (f := bDrawL mu ad dv) (s1 := ⟨slL n (some (.val (.int a))), dealL x (l ++ [a / n])⟩) ?_
    refine st_seq w1 (st_seq_rt (st_if c1 ?_))
    exact st_seq (s1 := ⟨slL n (some (.val (.int a))), dealL x l⟩) (st_set (se_met0 (gO_ok _) rfl (pop_l l a)))
      (st_seq (st_drop (se_met (gO_ok (o2 := some (.val (.int a))) l) rfl (sa_cons (se_bin (se_var rfl) (se_var rfl) (g_intC (cd a))) sa_nil) ap))
        (st_ret (se_bin (se_b (sa_cons (se_var rfl) sa_nil) rfl) (se_var rfl) (g_intC (cp a)))))
/-! ### the deal in a law's store; a call that is lent it -/
def lawM (x : Int) (gs : List Int) (rest : List MO) : List MO := .lst (gs.map T.int) :: .lsO [.own 0, .val (.int x)] :: rest
theorem putFrom_rest1 {k : Nat} {sub : List MO} : ∀ (r : List MO) (i : Nat), 2 ≤ i → putFrom [1, 0] k sub r i = r
  | [], _, _ => rfl
  | o :: r, i, h => by
    unfold putFrom
    rw [putFrom_rest1 r (i + 1) (by omega)]
    have : ixOf [1, 0] i = none := by
      unfold ixOf
      rw [if_neg (by omega)]
      unfold ixOf
      rw [if_neg (by omega)]
      rfl
    rw [this]
theorem call_live {vf : VF} {n : Int} {t : T} {x x' : Int} {gs gs' : List Int} {rest : List MO} (h : vf [.own 0, .val (.int n)] (dealL x gs) = some (.ok (.val t), dealL x' gs')) : callM vf [.own 1, .val (.int n)] (lawM x gs rest) = rM (.val t) (lawM x' gs' rest) := by
  unfold callM
  have eo : owns [.own 1, .val (.int n)] = [1] := rfl
  have eg : grow (lawM x gs rest) 100 [1] [] = [1, 0] := rfl
  have er : renSs [1, 0] [.own 1, .val (.int n)] = some [.own 0, .val (.int n)] := rfl
  have em : renMs [1, 0] (lawM x gs rest) [1, 0] = some (dealL x gs) := rfl
  rw [eo, eg]
  simp only [if_pos (show [1, 0].Nodup by decide), er, em, h]
  show (if 2 ≤ (dealL x' gs').length then _ else _) = _
  rw [if_pos (by show 2 ≤ 2; decide)]
  have ep : putAll [1, 0] (lawM x gs rest) (dealL x' gs') = lawM x' gs' rest := by
    unfold putAll
    show putFrom [1, 0] _ (dealL x' gs') (_ :: _ :: rest) 0 ++ _ = _
    unfold putFrom
    unfold putFrom
    rw [putFrom_rest1 rest _ (by omega)]
    show (_ :: _ :: rest) ++ [] = _
    rw [List.append_nil]
    rfl
  rw [ep]
  rfl
/-! ### a deal -/
def bMixL (mu md ad : Int) : VS := vSet 3 (vBin dModA (vB gInt1 (vCons (vBin gAdd (vBin gAdd (vBin dMulA (vVar 3) (vC (.int mu))) (vBin dModA (vB gInt1 (vCons (vVar 4) vNil)) (vC (.int md)))) (vC (.int ad))) vNil)) (vC (.int 2147483647)))
def bDealL (hi c0 cm mu md ad : Int) : VS := (vSeq (vSet 2 (vVal (vComp [4] (vItems (vVal (vSliceL (vVar 0) (vPart (vVar 1)) (vPart (vC (.int hi)))))) (vgName 4) vYes (vB gAbs (vCons (vB gInt1 (vCons (vVar 4) vNil)) vNil)))))
    (vSeq (vSet 3 (vBin gAdd (vC (.int c0)) (vBin dMulA (vC (.int cm)) (vVar 1))))
    (vSeq (vFor (vItems (vVar 2)) (vgName 4) (bMixL mu md ad))
    (vRet (vLstO (vCons (vOwn (vRev (vVal (vComp [4] (vItems (vVar 2)) (vgName 4) (vTest (vBin (gInt fun i j => .bl (decide (j ≤ i))) (vVar 4) (vBin (gIntC cPow fun i j => .int (i ^ j.toNat)) (vC (.int 10)) (vC (.int 18))))) (vVar 4))))) (vCons (vVar 3) vNil)))))))
section
variable {mu md ad : Int} {m : List MO}
theorem mix_loopL (hm : -(2 ^ 64) < mu ∧ mu < 2 ^ 64) (hd : 0 < md) {a0 a1 a2 : Option Sl} : ∀ (cs : List Int) (x : Int) (o4 : Option Sl), (0 ≤ x ∧ x < 2147483647) →
    ∃ x' o4', vLoop (vgName 4) (bMixL mu md ad) (cs.map T.int) ⟨[a0, a1, a2, some (.val (.int x)), o4], m⟩ = some (.nx, ⟨[a0, a1, a2, some (.val (.int x')), o4'], m⟩) ∧ (0 ≤ x' ∧ x' < 2147483647)
  | [], x, o4, hx => ⟨x, o4, rfl, hx⟩
  | c :: r, x, o4, hx => by
    let y := ((x * mu + c % md) + ad) % 2147483647
    have hy : 0 ≤ y ∧ y < 2147483647 := ⟨Int.emod_nonneg _ (by decide), Int.emod_lt_of_pos _ (by decide)⟩
    obtain ⟨x', o4', e, hx'⟩ := mix_loopL hm hd (a0 := a0) (a1 := a1) (a2 := a2) r y (some (.val (.int c))) hy
    refine ⟨x', o4', ?_, hx'⟩
    have cm : ∀ i : Int, cMul i mu = true := fun i => by unfold cMul; simp; omega
    have cp : ∀ i : Int, cPos i md = true := fun i => by unfold cPos; simp; omega
    exact st_loop (gt := vgName 4) (u := .int c) (ρ1 := [a0, a1, a2, some (.val (.int x)), some (.val (.int c))]) rfl
      (st_set (a := .val (.int y)) (se_bin (se_b (sa_cons (se_bin (se_bin (se_bin (se_var rfl) se_c (g_intC (cm _))) (se_bin (se_b (sa_cons (se_var rfl) sa_nil) rfl) se_c (g_intC (cp _))) rfl) se_c rfl) sa_nil) rfl) se_c rfl)) e
theorem dealL_ok {hi c0 cm b : Int} {ns : List Int} (hl : ns.length ≤ 900) (hm : -(2 ^ 64) < mu ∧ mu < 2 ^ 64) (hd : 0 < md) (hc : -(2 ^ 64) < cm ∧ cm < 2 ^ 64) (h0 : 0 ≤ c0 + cm * b ∧ c0 + cm * b < 2147483647) :
    ∃ (x : Int) (gs : List Int), vDef 5 (bDealL hi c0 cm mu md ad) [.val (.seq (ns.map T.int)), .val (.int b)] [] = some (.ok (.own 1), lawM x gs []) ∧ (0 ≤ x ∧ x < 2147483647) ∧ gs.length ≤ ns.length := by
  obtain ⟨ks, ec, lk⟩ := cut_ints ns (some b) (some hi)
  let cs := ks.map absI
  have lc : cs.length = ks.length := by simp [cs]
  have sz : SZ = 1000000 := rfl
  let s0 : List (Option Sl) := [some (.val (.seq (ns.map T.int))), some (.val (.int b)), none, none, none]
  have sl : vSliceL (vVar 0) (vPart (vVar 1)) (vPart (vC (.int hi))) ⟨s0, []⟩ = rM (ks.map T.int) [] := by
    show (if (ns.map T.int).length ≤ SZ then rM (cutT (ns.map T.int) (some b) (some hi)) [] else none) = _
    rw [if_pos (by simp; omega), ec]
  have k1 : vComp [4] (vItems (vVal (vSliceL (vVar 0) (vPart (vVar 1)) (vPart (vC (.int hi)))))) (vgName 4) vYes (vB gAbs (vCons (vB gInt1 (vCons (vVar 4) vNil)) vNil)) ⟨s0, []⟩ = rM (cs.map T.int) [] := by
    have e1 : vItems (vVal (vSliceL (vVar 0) (vPart (vVar 1)) (vPart (vC (.int hi))))) ⟨s0, []⟩ = rM (ks.map T.int) [] := si_items (se_val sl) rfl
    have e2 : vColl (vgName 4) vYes (vB gAbs (vCons (vB gInt1 (vCons (vVar 4) vNil)) vNil)) (wipeS s0 [4]) (ks.map T.int) [] [] = rM ([] ++ (ks.map T.int).filterMap fAbs) [] := coll_ok (F := fAbs) (ks.map T.int) [] (fun t ht => by
      obtain ⟨i, _, rfl⟩ := List.mem_map.mp ht
      exact ⟨_, rfl, .inl ⟨_, rfl, rfl, se_b (sa_cons (se_b (sa_cons (se_var rfl) sa_nil) rfl) sa_nil) rfl⟩⟩) (by simp; omega)
    unfold vComp
    rw [e1]
    refine e2.trans ?_
    rw [List.nil_append, fAbs_map]
  have s1 : vSet 2 (vVal (vComp [4] (vItems (vVal (vSliceL (vVar 0) (vPart (vVar 1)) (vPart (vC (.int hi)))))) (vgName 4) vYes (vB gAbs (vCons (vB gInt1 (vCons (vVar 4) vNil)) vNil)))) ⟨s0, []⟩ = some (.nx, ⟨s0.set 2 (some (.val (.lst (cs.map T.int)))), []⟩) := st_set (se_val k1)
  have s2 : vSet 3 (vBin gAdd (vC (.int c0)) (vBin dMulA (vC (.int cm)) (vVar 1))) ⟨s0.set 2 (some (.val (.lst (cs.map T.int)))), []⟩ = some (.nx, ⟨[some (.val (.seq (ns.map T.int))), some (.val (.int b)), some (.val (.lst (cs.map T.int))), some (.val (.int (c0 + cm * b))), none], []⟩) :=
    st_set (se_bin se_c (se_bin se_c (se_var rfl) (g_intC (by unfold cMul; simp; omega))) rfl)
  obtain ⟨x, o4, el, hx⟩ := mix_loopL (m := []) (ad := ad) hm hd (a0 := some (.val (.seq (ns.map T.int)))) (a1 := some (.val (.int b))) (a2 := some (.val (.lst (cs.map T.int)))) cs (c0 + cm * b) none h0
  let gs := (cs.filter fun i => decide ((10 : Int) ^ 18 ≤ i)).reverse
  have lg : gs.length ≤ ks.length := by
    show (List.reverse _).length ≤ _
    rw [List.length_reverse]
    exact Nat.le_trans (List.length_filter_le _ _) (by omega)
  refine ⟨x, gs, ?_, hx, by omega⟩
  refine sd_rt (f := bDealL hi c0 cm mu md ad) (s1 := ⟨[some (.val (.seq (ns.map T.int))), some (.val (.int b)), some (.val (.lst (cs.map T.int))), some (.val (.int x)), o4], lawM x gs []⟩) ?_
  refine st_seq s1 (st_seq s2 (st_seq (st_for (si_items (se_var rfl) rfl) el) (st_ret ?_)))
  let sE : List (Option Sl) := [some (.val (.seq (ns.map T.int))), some (.val (.int b)), some (.val (.lst (cs.map T.int))), some (.val (.int x)), o4]
  have k2 : vComp [4] (vItems (vVar 2)) (vgName 4) (vTest (vBin (gInt fun i j => .bl (decide (j ≤ i))) (vVar 4) (vBin (gIntC cPow fun i j => .int (i ^ j.toNat)) (vC (.int 10)) (vC (.int 18))))) (vVar 4) ⟨sE, []⟩ = rM ((cs.filter fun i => decide ((10 : Int) ^ 18 ≤ i)).map T.int) [] := by
    have e1 : vItems (vVar 2) ⟨sE, []⟩ = rM (cs.map T.int) [] := si_items (se_var rfl) rfl
    have e2 : vColl (vgName 4) (vTest (vBin (gInt fun i j => .bl (decide (j ≤ i))) (vVar 4) (vBin (gIntC cPow fun i j => .int (i ^ j.toNat)) (vC (.int 10)) (vC (.int 18))))) (vVar 4) (wipeS sE [4]) (cs.map T.int) [] [] = rM ([] ++ (cs.map T.int).filterMap (fGe ((10 : Int) ^ 18))) [] := coll_ok (F := fGe ((10 : Int) ^ 18)) (cs.map T.int) [] (fun t ht => by
      obtain ⟨i, _, rfl⟩ := List.mem_map.mp ht
      have pw : vBin (gIntC cPow fun i j => .int (i ^ j.toNat)) (vC (.int 10)) (vC (.int 18)) = fun s => rM (.val (.int ((10 : Int) ^ 18))) s.m := by
        funext s
        exact se_bin se_c se_c (g_intC (by decide))
      have ct : ∀ ρ1 : List (Option Sl), ρ1[4]? = some (some (.val (.int i))) → vTest (vBin (gInt fun i j => .bl (decide (j ≤ i))) (vVar 4) (vBin (gIntC cPow fun i j => .int (i ^ j.toNat)) (vC (.int 10)) (vC (.int 18)))) ⟨ρ1, []⟩ = rM (decide ((10 : Int) ^ 18 ≤ i)) [] := fun ρ1 h => by
        rw [pw]
        exact sc_test (se_bin (se_var h) rfl rfl)
      by_cases hi : (10 : Int) ^ 18 ≤ i
      · exact ⟨_, rfl, .inl ⟨_, if_pos hi, by rw [ct _ rfl, decide_eq_true hi], se_var rfl⟩⟩
      · exact ⟨_, rfl, .inr ⟨if_neg hi, by rw [ct _ rfl, decide_eq_false hi]⟩⟩) (by simp; omega)
    unfold vComp
    rw [e1]
    refine e2.trans ?_
    rw [List.nil_append, fGe_map]
  have cp : vVal (vComp [4] (vItems (vVar 2)) (vgName 4) (vTest (vBin (gInt fun i j => .bl (decide (j ≤ i))) (vVar 4) (vBin (gIntC cPow fun i j => .int (i ^ j.toNat)) (vC (.int 10)) (vC (.int 18))))) (vVar 4)) ⟨sE, []⟩ = rM (.val (.lst ((cs.filter fun i => decide ((10 : Int) ^ 18 ≤ i)).map T.int))) [] := se_val k2
  have rv : vOwn (vRev (vVal (vComp [4] (vItems (vVar 2)) (vgName 4) (vTest (vBin (gInt fun i j => .bl (decide (j ≤ i))) (vVar 4) (vBin (gIntC cPow fun i j => .int (i ^ j.toNat)) (vC (.int 10)) (vC (.int 18))))) (vVar 4)))) ⟨sE, []⟩ = rM (.own 0) [.lst (gs.map T.int)] := by
    refine se_own (m := []) (ts := gs.map T.int) ?_
    unfold vRev
    rw [cp]
    show (if ((cs.filter fun i => decide ((10 : Int) ^ 18 ≤ i)).map T.int).length ≤ SZ then _ else _) = _
    rw [if_pos (by
      rw [List.length_map]
      have := List.length_filter_le (fun i => decide ((10 : Int) ^ 18 ≤ i)) cs
      omega), ← List.map_reverse]
  unfold vLstO
  rw [show vCons (vOwn (vRev (vVal (vComp [4] (vItems (vVar 2)) (vgName 4) (vTest (vBin (gInt fun i j => .bl (decide (j ≤ i))) (vVar 4) (vBin (gIntC cPow fun i j => .int (i ^ j.toNat)) (vC (.int 10)) (vC (.int 18))))) (vVar 4))))) (vCons (vVar 3) vNil) ⟨sE, []⟩ = rM [.own 0, .val (.int x)] [.lst (gs.map T.int)] from sa_cons rv (sa_cons (se_var rfl) sa_nil)]
  rfl
end
end Vs
end
section
/-! DealS: the deal of _law_source, mixed by a for, a pick; calls that are lent a deal within any store. -/
namespace Vs
open PySem PySem.Spec PyProof.Rows L2
def bSrcG (key : Str) (hi c0 cm mu md ad : Int) : VS := (vSeq (vSet 2 (vVal (vComp [4] (vItems (vVal (vSliceL (vVar 0) (vPart (vVar 1)) (vPart (vC (.int hi)))))) (vgName 4) vYes (vB gAbs (vCons (vB gInt1 (vCons (vVar 4) vNil)) vNil)))))
    (vSeq (vSet 3 (vBin gAdd (vC (.int c0)) (vBin dMulA (vC (.int cm)) (vVar 1))))
    (vSeq (vFor (vItems (vVar 2)) (vgName 4) (bMixL mu md ad))
    (vRet (vDisp [("great", (vOwn (vRev (vVal (vComp [4] (vItems (vVar 2)) (vgName 4) (vTest (vBin (gInt fun i j => .bl (decide (j ≤ i))) (vVar 4) (vBin (gIntC cPow fun i j => .int (i ^ j.toNat)) (vC (.int 10)) (vC (.int 18))))) (vVar 4)))))), (key, (vVar 3))])))))
section
variable {mu md ad : Int} {m : List MO}
theorem src_ok {key : Str} {hi c0 cm b : Int} {ns : List Int} (hk : key ≠ "great") (hl : ns.length ≤ 900) (hm : -(2 ^ 64) < mu ∧ mu < 2 ^ 64) (hd : 0 < md) (hc : -(2 ^ 64) < cm ∧ cm < 2 ^ 64) (h0 : 0 ≤ c0 + cm * b ∧ c0 + cm * b < 2147483647) :
    ∃ (x : Int) (gs : List Int), vDef 5 (bSrcG key hi c0 cm mu md ad) [.val (.seq (ns.map T.int)), .val (.int b)] [] = some (.ok (.own 1), [.lst (gs.map T.int), .rcd [("great", .own 0), (key, .val (.int x))]]) ∧ (0 ≤ x ∧ x < 2147483647) ∧ gs.length ≤ ns.length := by
  obtain ⟨ks, ec, lk⟩ := cut_ints ns (some b) (some hi)
  let cs := ks.map absI
  have lc : cs.length = ks.length := by simp [cs]
  have sz : SZ = 1000000 := rfl
  let s0 : List (Option Sl) := [some (.val (.seq (ns.map T.int))), some (.val (.int b)), none, none, none]
  have sl : vSliceL (vVar 0) (vPart (vVar 1)) (vPart (vC (.int hi))) ⟨s0, []⟩ = rM (ks.map T.int) [] := by
    show (if (ns.map T.int).length ≤ SZ then rM (cutT (ns.map T.int) (some b) (some hi)) [] else none) = _
    rw [if_pos (by simp; omega), ec]
  have k1 : vComp [4] (vItems (vVal (vSliceL (vVar 0) (vPart (vVar 1)) (vPart (vC (.int hi)))))) (vgName 4) vYes (vB gAbs (vCons (vB gInt1 (vCons (vVar 4) vNil)) vNil)) ⟨s0, []⟩ = rM (cs.map T.int) [] := by
    have e1 : vItems (vVal (vSliceL (vVar 0) (vPart (vVar 1)) (vPart (vC (.int hi))))) ⟨s0, []⟩ = rM (ks.map T.int) [] := si_items (se_val sl) rfl
    have e2 : vColl (vgName 4) vYes (vB gAbs (vCons (vB gInt1 (vCons (vVar 4) vNil)) vNil)) (wipeS s0 [4]) (ks.map T.int) [] [] = rM ([] ++ (ks.map T.int).filterMap fAbs) [] := coll_ok (F := fAbs) (ks.map T.int) [] (fun t ht => by
      obtain ⟨i, _, rfl⟩ := List.mem_map.mp ht
      exact ⟨_, rfl, .inl ⟨_, rfl, rfl, se_b (sa_cons (se_b (sa_cons (se_var rfl) sa_nil) rfl) sa_nil) rfl⟩⟩) (by simp; omega)
    unfold vComp
    rw [e1]
    refine e2.trans ?_
    rw [List.nil_append, fAbs_map]
  have s1 : vSet 2 (vVal (vComp [4] (vItems (vVal (vSliceL (vVar 0) (vPart (vVar 1)) (vPart (vC (.int hi)))))) (vgName 4) vYes (vB gAbs (vCons (vB gInt1 (vCons (vVar 4) vNil)) vNil)))) ⟨s0, []⟩ = some (.nx, ⟨s0.set 2 (some (.val (.lst (cs.map T.int)))), []⟩) := st_set (se_val k1)
  have s2 : vSet 3 (vBin gAdd (vC (.int c0)) (vBin dMulA (vC (.int cm)) (vVar 1))) ⟨s0.set 2 (some (.val (.lst (cs.map T.int)))), []⟩ = some (.nx, ⟨[some (.val (.seq (ns.map T.int))), some (.val (.int b)), some (.val (.lst (cs.map T.int))), some (.val (.int (c0 + cm * b))), none], []⟩) :=
    st_set (se_bin se_c (se_bin se_c (se_var rfl) (g_intC (by unfold cMul; simp; omega))) rfl)
  obtain ⟨x, o4, el, hx⟩ := mix_loopL (m := []) (ad := ad) hm hd (a0 := some (.val (.seq (ns.map T.int)))) (a1 := some (.val (.int b))) (a2 := some (.val (.lst (cs.map T.int)))) cs (c0 + cm * b) none h0
  let gs := (cs.filter fun i => decide ((10 : Int) ^ 18 ≤ i)).reverse
  have lg : gs.length ≤ ks.length := by
    show (List.reverse _).length ≤ _
    rw [List.length_reverse]
    exact Nat.le_trans (List.length_filter_le _ _) (by omega)
  refine ⟨x, gs, ?_, hx, by omega⟩
  refine sd_rt (f := bSrcG key hi c0 cm mu md ad) (s1 := ⟨[some (.val (.seq (ns.map T.int))), some (.val (.int b)), some (.val (.lst (cs.map T.int))), some (.val (.int x)), o4], [.lst (gs.map T.int), .rcd [("great", .own 0), (key, .val (.int x))]]⟩) ?_
  refine st_seq s1 (st_seq s2 (st_seq (st_for (si_items (se_var rfl) rfl) el) (st_ret ?_)))
  let sE : List (Option Sl) := [some (.val (.seq (ns.map T.int))), some (.val (.int b)), some (.val (.lst (cs.map T.int))), some (.val (.int x)), o4]
  have k2 : vComp [4] (vItems (vVar 2)) (vgName 4) (vTest (vBin (gInt fun i j => .bl (decide (j ≤ i))) (vVar 4) (vBin (gIntC cPow fun i j => .int (i ^ j.toNat)) (vC (.int 10)) (vC (.int 18))))) (vVar 4) ⟨sE, []⟩ = rM ((cs.filter fun i => decide ((10 : Int) ^ 18 ≤ i)).map T.int) [] := by
    have e1 : vItems (vVar 2) ⟨sE, []⟩ = rM (cs.map T.int) [] := si_items (se_var rfl) rfl
    have e2 : vColl (vgName 4) (vTest (vBin (gInt fun i j => .bl (decide (j ≤ i))) (vVar 4) (vBin (gIntC cPow fun i j => .int (i ^ j.toNat)) (vC (.int 10)) (vC (.int 18))))) (vVar 4) (wipeS sE [4]) (cs.map T.int) [] [] = rM ([] ++ (cs.map T.int).filterMap (fGe ((10 : Int) ^ 18))) [] := coll_ok (F := fGe ((10 : Int) ^ 18)) (cs.map T.int) [] (fun t ht => by
      obtain ⟨i, _, rfl⟩ := List.mem_map.mp ht
      have pw : vBin (gIntC cPow fun i j => .int (i ^ j.toNat)) (vC (.int 10)) (vC (.int 18)) = fun s => rM (.val (.int ((10 : Int) ^ 18))) s.m := by
        funext s
        exact se_bin se_c se_c (g_intC (by decide))
      have ct : ∀ ρ1 : List (Option Sl), ρ1[4]? = some (some (.val (.int i))) → vTest (vBin (gInt fun i j => .bl (decide (j ≤ i))) (vVar 4) (vBin (gIntC cPow fun i j => .int (i ^ j.toNat)) (vC (.int 10)) (vC (.int 18)))) ⟨ρ1, []⟩ = rM (decide ((10 : Int) ^ 18 ≤ i)) [] := fun ρ1 h => by
        rw [pw]
        exact sc_test (se_bin (se_var h) rfl rfl)
      by_cases hi : (10 : Int) ^ 18 ≤ i
      · exact ⟨_, rfl, .inl ⟨_, if_pos hi, by rw [ct _ rfl, decide_eq_true hi], se_var rfl⟩⟩
      · exact ⟨_, rfl, .inr ⟨if_neg hi, by rw [ct _ rfl, decide_eq_false hi]⟩⟩) (by simp; omega)
    unfold vComp
    rw [e1]
    refine e2.trans ?_
    rw [List.nil_append, fGe_map]
  have cp : vVal (vComp [4] (vItems (vVar 2)) (vgName 4) (vTest (vBin (gInt fun i j => .bl (decide (j ≤ i))) (vVar 4) (vBin (gIntC cPow fun i j => .int (i ^ j.toNat)) (vC (.int 10)) (vC (.int 18))))) (vVar 4)) ⟨sE, []⟩ = rM (.val (.lst ((cs.filter fun i => decide ((10 : Int) ^ 18 ≤ i)).map T.int))) [] := se_val k2
  have rv : vOwn (vRev (vVal (vComp [4] (vItems (vVar 2)) (vgName 4) (vTest (vBin (gInt fun i j => .bl (decide (j ≤ i))) (vVar 4) (vBin (gIntC cPow fun i j => .int (i ^ j.toNat)) (vC (.int 10)) (vC (.int 18))))) (vVar 4)))) ⟨sE, []⟩ = rM (.own 0) [.lst (gs.map T.int)] := by
    refine se_own (m := []) (ts := gs.map T.int) ?_
    unfold vRev
    rw [cp]
    show (if ((cs.filter fun i => decide ((10 : Int) ^ 18 ≤ i)).map T.int).length ≤ SZ then _ else _) = _
    rw [if_pos (by
      rw [List.length_map]
      have := List.length_filter_le (fun i => decide ((10 : Int) ^ 18 ≤ i)) cs
      omega), ← List.map_reverse]
  unfold vDisp vRcd
  rw [rv]
  have kd : distinct [("great" : Str), key] = true := by
    unfold distinct
    simp [distinct, Ne.symm hk, beq_eq_false_iff_ne.mpr (Ne.symm hk)]
  show gDisp [("great", .own 0), (key, .val (.int x))] [.lst (gs.map T.int)] = _
  unfold gDisp
  rw [if_pos ⟨kd, by show 2 ≤ 15; decide⟩]
  rfl
end
/-! ### what is lent a deal -/
/-- the deal stands in the store: its dict at d, its list at g -/
structure DealAt (key : Str) (m : List MO) (d g : Nat) (x : Int) (gs : List Int) : Prop where
  rc : m[d]? = some (.rcd [("great", .own g), (key, .val (.int x))])
  ls : m[g]? = some (.lst (gs.map T.int))
  ne : g ≠ d
  xr : 0 ≤ x ∧ x < 2147483647
  gl : gs.length ≤ 900
/-- what a def that is lent a deal first, and these values, brings -/
def DealOk (key : Str) (vf : VF) (vals : List Sl) (R : T → Prop) : Prop := ∀ (x : Int) (gs : List Int), gs.length ≤ 900 → (0 ≤ x ∧ x < 2147483647) →
  ∃ t x' gs' X, vf (.own 0 :: vals) (dealM key x gs) = some (.ok (.val t), dealM key x' gs' ++ X) ∧ R t ∧ (0 ≤ x' ∧ x' < 2147483647) ∧ gs'.length ≤ 900
/-- what else stood in the store stands there -/
def Oth (m m' : List MO) (d g : Nat) : Prop := m.length ≤ m'.length ∧ ∀ i, i ≠ d → i ≠ g → i < m.length → m'[i]? = m[i]?
theorem Oth.trans {m m1 m2 : List MO} {d g : Nat} (a : Oth m m1 d g) (b : Oth m1 m2 d g) : Oth m m2 d g :=
  ⟨Nat.le_trans a.1 b.1, fun i h1 h2 h3 => (b.2 i h1 h2 (Nat.lt_of_lt_of_le h3 a.1)).trans (a.2 i h1 h2 h3)⟩
theorem pf_len {ids : List Nat} {k : Nat} {sub : List MO} : ∀ {m : List MO} {i : Nat}, (putFrom ids k sub m i).length = m.length
  | [], _ => rfl
  | o :: r, i => congrArg (· + 1) (pf_len (m := r) (i := i + 1))
theorem pf_get {ids : List Nat} {k : Nat} {sub : List MO} : ∀ {m : List MO} {i n : Nat} {o : MO}, m[n]? = some o → (putFrom ids k sub m i)[n]? = some (match ixOf ids (i + n) with
    | some j => match sub[j]? with
      | some u => backM ids k u
      | none => o
    | none => o)
  | o :: r, i, 0, u, e => by
    cases e
    rfl
  | o :: r, i, n + 1, u, e => by
    have h := pf_get (ids := ids) (k := k) (sub := sub) (m := r) (i := i + 1) (n := n) (o := u) e
    rw [show i + (n + 1) = i + 1 + n by omega]
    exact h
theorem ints_len : ∀ (lo : Int) (n : Nat), (intsT lo n).length = n
  | _, 0 => rfl
  | lo, n + 1 => congrArg (· + 1) (ints_len (lo + 1) n)
section
variable {key : Str} {m : List MO} {d g : Nat} {x : Int} {gs : List Int} {vf : VF} {vals : List Sl} {R : T → Prop}
theorem DealOk.at_ (D : DealOk key vf vals R) (hv : Vals0 vals) (A : DealAt key m d g x gs) :
    ∃ t x' gs' m', callM vf (.own d :: vals) m = rM (.val t) m' ∧ R t ∧ DealAt key m' d g x' gs' ∧ Oth m m' d g := by
  obtain ⟨t, x', gs', X, e, hR, hx', hg'⟩ := D x gs A.gl A.xr
  have hd := (List.getElem?_eq_some_iff.mp A.rc).1
  have hg := (List.getElem?_eq_some_iff.mp A.ls).1
  have cal := call_deal A.rc A.ls A.ne hv e (by simp [dealM])
  have i0 : ixOf [d, g] d = some 0 := by unfold ixOf; rw [if_pos rfl]
  have i1 : ixOf [d, g] g = some 1 := by
    unfold ixOf
    rw [if_neg (Ne.symm A.ne)]
    unfold ixOf
    rw [if_pos rfl]
    rfl
  have bk : back [d, g] m.length 1 = g := rfl
  have len : m.length ≤ (putAll [d, g] m (dealM key x' gs' ++ X)).length := by
    unfold putAll
    rw [List.length_append, pf_len]
    exact Nat.le_add_right _ _
  have get : ∀ n, n < m.length → (putAll [d, g] m (dealM key x' gs' ++ X))[n]? = (putFrom [d, g] m.length (dealM key x' gs' ++ X) m 0)[n]? := fun n hn => by
    unfold putAll
    rw [List.getElem?_append_left (by rw [pf_len]; exact hn)]
  refine ⟨t, x', gs', _, cal, hR, ⟨?_, ?_, A.ne, hx', hg'⟩, len, fun i h1 h2 h3 => ?_⟩
  · rw [get d hd, pf_get A.rc, Nat.zero_add, i0]
    rfl
  · rw [get g hg, pf_get A.ls, Nat.zero_add, i1]
    rfl
  · rw [get i h3, pf_get (List.getElem?_eq_getElem h3), Nat.zero_add, List.getElem?_eq_getElem h3]
    have : ixOf [d, g] i = none := by
      unfold ixOf
      rw [if_neg (Ne.symm h1)]
      unfold ixOf
      rw [if_neg (Ne.symm h2)]
      rfl
    rw [this]
/-- the deal where a def has it: first in the store -/
theorem dealAt0 {rest : List MO} (hx : 0 ≤ x ∧ x < 2147483647) (hg : gs.length ≤ 900) : DealAt key (dealM key x gs ++ rest) 0 1 x gs := ⟨rfl, rfl, by decide, hx, hg⟩
/-- .. and how the store then looks -/
theorem DealAt.split (A : DealAt key m 0 1 x gs) : ∃ X, m = dealM key x gs ++ X := by
  match m, A.rc, A.ls with
  | a :: b :: r, h1, h2 =>
    cases h1
    cases h2
    exact ⟨r, rfl⟩
theorem DrawOk.deal {fd : VF} {n : Int} (h : DrawOk key fd) (hn : 0 < n ∧ n < 1073741824) : DealOk key fd [.val (.int n)] (fun t => ∃ r : Int, t = .int r ∧ 0 ≤ r ∧ r < n) := fun x gs hg hx => by
  obtain ⟨r, x', gs', e, hr, hx', hg'⟩ := h x n gs hg hx hn
  exact ⟨.int r, x', gs', [], by rw [List.append_nil]; exact e, ⟨r, rfl, hr⟩, hx', Nat.le_trans hg' hg⟩
end
/-! ### a pick -/
def bPickG (fd : VF) : VS := vRet (vBin gIx (vVar 1) (vCall fd (vCons (vVar 0) (vCons (vB gLen (vCons (vVar 1) vNil)) vNil))))
theorem pick_ok {key : Str} {fd : VF} {us : List T} (hf : DrawOk key fd) (h0 : 0 < us.length) (hl : us.length ≤ 900) : DealOk key (vDef 2 (bPickG fd)) [.val (.lst us)] (fun t => t ∈ us) := fun x gs hg hx => by
  obtain ⟨r, x', gs', e, hr, hx', hg'⟩ := hf x (us.length : Int) gs hg hx ⟨by omega, by omega⟩
  have cal := call_deal0 (rest := []) (v0c (t := .int (us.length : Int)) v0n) e
  rw [List.append_nil, List.append_nil] at cal
  have hj : r.toNat < us.length := by omega
  have at_ : atI us r = some us[r.toNat] := by
    unfold atI ixN
    rw [if_pos hr.1]
    have : r < (us.length : Int) := hr.2
    simp only [if_pos this]
    exact List.getElem?_eq_getElem hj
  refine ⟨us[r.toNat], x', gs', [], ?_, List.getElem_mem hj, hx', Nat.le_trans hg' hg⟩
  rw [List.append_nil]
  refine sd_rt (f := bPickG fd) (s1 := ⟨[some (.own 0), some (.val (.lst us))], dealM key x' gs'⟩) (st_ret (se_bin (se_var rfl) (se_call (sa_cons (se_var rfl) (sa_cons (se_b (sa_cons (se_var rfl) sa_nil) rfl) sa_nil)) cal) ?_))
  show (match (some us : Option (List T)) with
    | some ts => match atI ts r with
      | some t => rM (Sl.val t) _
      | none => none
    | none => none) = _
  simp only [at_]
/-! ### mixed by a for -/
def bMixB (fd : VF) : VS := (vDrop (vMet gAppend (vVar 4) (vCons (vMet gPopAt (vVar 3) (vCons (vCall fd (vCons (vVar 0) (vCons (vB gLen (vCons (vVar 3) vNil)) vNil))) vNil)) vNil)))
def bMixF (fd : VF) : VS := (vSeq (vFrz 4 (vFrz 3 (vPar 3 4 (vCons (vOwn (vBN gListOf (vCons (vVar 1) vNil))) (vCons (vOwn (vLst vNil)) vNil)))))
    (vSeq (vFor (vRange (vB gLen (vCons (vVar 3) vNil))) (vgName 2) (bMixB fd))
    (vFrz 4 (vRet (vVar 4)))))
section
variable {key : Str} {fd : VF} {us : List T}
abbrev slF (us : List T) (o2 : Option Sl) : List (Option Sl) := [some (.own 0), some (.val (.lst us)), o2, some (.own 2), some (.own 3)]
theorem mixF_loop (hf : DrawOk key fd) : ∀ (is : List T) (o2 : Option Sl) (x : Int) (gs : List Int) (left found : List T), left.length = is.length → left.length + found.length ≤ 900 → gs.length ≤ 900 → (0 ≤ x ∧ x < 2147483647) → (∀ t ∈ left, t ∈ us) → (∀ t ∈ found, t ∈ us) →
    ∃ x' gs' found' o2', (o2' = o2 ∨ ∃ t, o2' = some (.val t)) ∧ vLoop (vgName 2) (bMixB fd) is ⟨slF us o2, mM key x gs left found⟩ = some (.nx, ⟨slF us o2', mM key x' gs' [] found'⟩)
      ∧ (∀ t ∈ found', t ∈ us) ∧ (0 ≤ x' ∧ x' < 2147483647) ∧ gs'.length ≤ gs.length ∧ found'.length = left.length + found.length
  | [], o2, x, gs, left, found, h, hz, hg, hx, hl, hfo => by
    cases left with
    | nil => exact ⟨x, gs, found, o2, .inl rfl, rfl, hfo, hx, Nat.le_refl _, by simp⟩
    | cons a r => cases h
  | i :: r, o2, x, gs, left, found, h, hz, hg, hx, hl, hfo => by
    rw [List.length_cons] at h
    obtain ⟨k, x1, gs1, h1, hr, hx1, hg1⟩ := hf x (left.length : Int) gs hg hx ⟨by omega, by omega⟩
    have cal := call_deal0 (rest := [.lst left, .lst found]) (v0c (t := .int (left.length : Int)) v0n) h1
    have hj : k.toNat < left.length := by omega
    have ix : ixN left.length k = some k.toNat := by unfold ixN; rw [if_pos hr.1, if_pos (by omega)]
    have pop : gPopAt (.own 2) [.val (.int k)] (mM key x1 gs1 left found) = rM (.val left[k.toNat]) (mM key x1 gs1 (left.eraseIdx k.toNat) found) := by
      show (if left.length ≤ SZ then _ else _) = _
      rw [if_pos (by have : SZ = 1000000 := rfl; omega), ix]
      simp only
      rw [List.getElem?_eq_getElem hj]
      rfl
    have ap : gAppend (.own 3) [.val left[k.toNat]] (mM key x1 gs1 (left.eraseIdx k.toNat) found) = rM (.val .non) (mM key x1 gs1 (left.eraseIdx k.toNat) (found ++ [left[k.toNat]])) := by
      show (if found.length < SZ then _ else _) = _
      rw [if_pos (by have : SZ = 1000000 := rfl; omega)]
      rfl
    have le : (left.eraseIdx k.toNat).length = left.length - 1 := List.length_eraseIdx_of_lt hj
    obtain ⟨x', gs', fo, o2', q0, q1, q2, q3, q4, q5⟩ := mixF_loop hf r (some (.val i)) x1 gs1 (left.eraseIdx k.toNat) (found ++ [left[k.toNat]]) (by omega) (by rw [le, List.length_append, List.length_singleton]; omega) (by omega) hx1
      (fun t ht => hl t (List.mem_of_mem_eraseIdx ht)) (fun t ht => by
        rcases List.mem_append.mp ht with ht | ht
        · exact hfo t ht
        · rw [List.mem_singleton.mp ht]; exact hl _ (List.getElem_mem hj))
    refine ⟨x', gs', fo, o2', .inr (q0.elim (fun h => ⟨_, h⟩) id), st_loop (gt := vgName 2) (u := i) (ρ1 := slF us (some (.val i))) rfl (st_drop (se_met (se_var rfl) rfl (sa_cons (se_met (se_var rfl) rfl (sa_cons (se_call (sa_cons (se_var rfl) (sa_cons (se_b (sa_cons (se_var rfl) sa_nil) rfl) sa_nil)) cal) sa_nil) pop) sa_nil) ap)) q1, q2, q3, by omega, ?_⟩
    rw [q5, le, List.length_append, List.length_singleton]
    omega
theorem mixF_ok (hf : DrawOk key fd) (hu : us.length ≤ 900) : DealOk key (vDef 5 (bMixF fd)) [.val (.lst us)] (fun t => ∃ fo, t = .lst fo ∧ (∀ u ∈ fo, u ∈ us) ∧ fo.length = us.length) := fun x gs hg hx => by
  have sz : SZ = 1000000 := rfl
  obtain ⟨x', gs', fo, o2', q0, q1, q2, q3, q4, q5⟩ := mixF_loop (us := us) hf (intsT 0 us.length) none x gs us [] (by rw [ints_len]) (by simpa using hu) hg hx (fun t h => h) (fun t h => nomatch h)
  refine ⟨.lst fo, x', gs', [.lst [], .dead], ?_, ⟨fo, rfl, q2, by simpa using q5⟩, q3, Nat.le_trans q4 hg⟩
  refine sd_rt (f := bMixF fd) (s1 := ⟨[some (.own 0), some (.val (.lst us)), o2', some (.own 2), some (.val (.lst fo))], dealM key x' gs' ++ [.lst [], .dead]⟩) ?_
  have li : vBN gListOf (vCons (vVar 1) vNil) ⟨[some (.own 0), some (.val (.lst us)), none, none, none], dealM key x gs⟩ = rM us (dealM key x gs) := se_bN (sa_cons (se_var rfl) sa_nil) (by
    show (if us.length ≤ SZ then _ else _) = _
    rw [if_pos (by omega)])
  have s1 : vFrz 4 (vFrz 3 (vPar 3 4 (vCons (vOwn (vBN gListOf (vCons (vVar 1) vNil))) (vCons (vOwn (vLst vNil)) vNil)))) ⟨[some (.own 0), some (.val (.lst us)), none, none, none], dealM key x gs⟩ = some (.nx, ⟨slF us none, mM key x gs us []⟩) := by
    show vPar 3 4 _ ⟨[some (.own 0), some (.val (.lst us)), none, none, none], dealM key x gs⟩ = _
    unfold vPar
    rw [sa_cons (se_own li) (sa_cons (se_own rfl) sa_nil)]
    rfl
  have it : vRange (vB gLen (vCons (vVar 3) vNil)) ⟨slF us none, mM key x gs us []⟩ = rM (intsT 0 us.length) (mM key x gs us []) := by
    unfold vRange
    rw [show vB gLen (vCons (vVar 3) vNil) ⟨slF us none, mM key x gs us []⟩ = rM (.val (.int (us.length : Int))) (mM key x gs us []) from se_b (sa_cons (se_var rfl) sa_nil) rfl]
    show (if -1000000 ≤ (us.length : Int) ∧ (us.length : Int) ≤ 1000000 then _ else none) = _
    rw [if_pos (by omega), Int.toNat_natCast]
  refine st_seq s1 (st_seq (st_for it q1) ?_)
  rcases q0 with rfl | ⟨u, rfl⟩ <;> rfl
end
end Vs
end
section
/-! RowsP: rows as tuples, drawn: _law_row, _law_rows. -/
namespace Vs
open PySem PySem.Spec PyProof.Rows L2
def sortsT : List Str := ["keep", "tries", "limit", "leave", "soft", "count", "lend"]
def rowsT : List T := [.tup [.str "leave"], .tup [.str "count"], .tup [.str "lend"], .tup [.str "soft", .str "fault"], .tup [.str "soft", .str "all"],
  .tup [.str "limit", .int 1], .tup [.str "limit", .int 2], .tup [.str "limit", .int 3], .tup [.str "limit", .int 4],
  .tup [.str "tries", .int 1, .str "fault"], .tup [.str "tries", .int 2, .str "fault"], .tup [.str "tries", .int 3, .str "fault"], .tup [.str "tries", .int 1, .str "all"], .tup [.str "tries", .int 2, .str "all"], .tup [.str "tries", .int 3, .str "all"],
  .tup [.str "keep", .str "good", .non], .tup [.str "keep", .str "good", .int 0], .tup [.str "keep", .str "good", .int 1], .tup [.str "keep", .str "good", .int 2], .tup [.str "keep", .str "good", .int 3],
  .tup [.str "keep", .str "all", .non], .tup [.str "keep", .str "all", .int 0], .tup [.str "keep", .str "all", .int 1], .tup [.str "keep", .str "all", .int 2], .tup [.str "keep", .str "all", .int 3]]
def bRowG (fp fd : VF) : VS := (vSeq (vIf (vTest (vBin dEq (vVar 1) (vC (.str "keep")))) (vRet (vTup (vCons (vVar 1) (vCons (vCall fp (vCons (vVar 0) (vCons (vVal (vLst (vCons (vC (.str "good")) (vCons (vC (.str "all")) vNil)))) vNil))) (vCons (vCall fp (vCons (vVar 0) (vCons (vVal (vLst (vCons (vC .non) (vCons (vC .non) (vCons (vC (.int 0)) (vCons (vC (.int 1)) (vCons (vC (.int 2)) (vCons (vC (.int 3)) vNil)))))))) vNil))) vNil))))) vNext)
    (vSeq (vIf (vTest (vBin dEq (vVar 1) (vC (.str "tries")))) (vRet (vTup (vCons (vVar 1) (vCons (vBin gAdd (vC (.int 1)) (vCall fd (vCons (vVar 0) (vCons (vC (.int 3)) vNil)))) (vCons (vCall fp (vCons (vVar 0) (vCons (vVal (vLst (vCons (vC (.str "fault")) (vCons (vC (.str "all")) vNil)))) vNil))) vNil))))) vNext)
    (vSeq (vIf (vTest (vBin dEq (vVar 1) (vC (.str "limit")))) (vRet (vTup (vCons (vVar 1) (vCons (vBin gAdd (vC (.int 1)) (vCall fd (vCons (vVar 0) (vCons (vC (.int 4)) vNil)))) vNil)))) vNext)
    (vRet (vIfE (vTest (vBin dEq (vVar 1) (vC (.str "soft")))) (vTup (vCons (vVar 1) (vCons (vCall fp (vCons (vVar 0) (vCons (vVal (vLst (vCons (vC (.str "fault")) (vCons (vC (.str "all")) vNil)))) vNil))) vNil))) (vTup (vCons (vVar 1) vNil)))))))
abbrev slR (z : Str) : List (Option Sl) := [some (.own 0), some (.val (.str z))]
section
variable {key : Str} {fp fd : VF} {m : List MO} {z : Str}
theorem shaped_str {x : Str} (h : PyData.strOk x = true) : SeqAt.shaped (.str x) = true := by
  unfold SeqAt.shaped PyData.canLay0 PyData.depth
  rw [h]
  rfl
theorem eq_row {y : Str} {b : Bool} (h1 : PyData.strOk z = true) (h2 : PyData.strOk y = true) (h : decide (z = y) = b) : vTest (vBin dEq (vVar 1) (vC (.str y))) ⟨slR z, m⟩ = rM b m :=
  sc_test (se_bin (se_var rfl) se_c ((dat_str (shaped_str h1) (shaped_str h2)).trans (by rw [h])))
/-- the row, made of what a call brings -/
theorem row_ret {vf : VF} {R : T → Prop} {vals : List Sl} {x : Int} {gs : List Int} (h : ∀ m, DealAt key m 0 1 x gs → ∃ t x' gs' m', vf vals m = some (.ok (.val t), m') ∧ R t ∧ DealAt key m' 0 1 x' gs') (hg : gs.length ≤ 900) (hx : 0 ≤ x ∧ x < 2147483647) :
    ∃ t x' gs' X, vf vals (dealM key x gs) = some (.ok (.val t), dealM key x' gs' ++ X) ∧ R t ∧ (0 ≤ x' ∧ x' < 2147483647) ∧ gs'.length ≤ 900 := by
  obtain ⟨t, x', gs', m', e, hR, A⟩ := h (dealM key x gs) ⟨rfl, rfl, by decide, hx, hg⟩
  obtain ⟨X, rfl⟩ := A.split
  exact ⟨t, x', gs', X, e, hR, A.xr, A.gl⟩
theorem row_keep (hp : ∀ us : List T, 0 < us.length → us.length ≤ 900 → DealOk key fp [.val (.lst us)] (fun t => t ∈ us)) : DealOk key (vDef 2 (bRowG fp fd)) [.val (.str "keep")] (fun t => t ∈ rowsT) := fun x gs hg hx => by
  refine row_ret (fun m A => ?_) hg hx
  obtain ⟨t1, x1, gs1, m1, c1, h1, A1, o1⟩ := (hp [.str "good", .str "all"] (by decide) (by decide)).at_ (v0c v0n) A
  obtain ⟨t2, x2, gs2, m2, c2, h2, A2, o2⟩ := (hp [.non, .non, .int 0, .int 1, .int 2, .int 3] (by decide) (by decide)).at_ (v0c v0n) A1
  refine ⟨.tup [.str "keep", t1, t2], x2, gs2, m2, sd_rt (f := bRowG fp fd) (s1 := ⟨slR "keep", m2⟩) ?_, ?_, A2⟩
  · exact st_seq_rt (st_if (eq_row (by decide +kernel) (by decide +kernel) rfl) (st_ret (se_tup (sa_cons (se_var rfl) (sa_cons (se_call (sa_cons (se_var rfl) (sa_cons rfl sa_nil)) c1) (sa_cons (se_call (sa_cons (se_var rfl) (sa_cons rfl sa_nil)) c2) sa_nil))) rfl (Nat.le_trans (show _ ≤ 3 by simp) (by decide)))))
  · simp only [List.mem_cons, List.not_mem_nil, or_false] at h1 h2
    rcases h1 with rfl | rfl <;> rcases h2 with rfl | rfl | rfl | rfl | rfl | rfl <;> simp [rowsT]
theorem row_tries (hf : DrawOk key fd) (hp : ∀ us : List T, 0 < us.length → us.length ≤ 900 → DealOk key fp [.val (.lst us)] (fun t => t ∈ us)) : DealOk key (vDef 2 (bRowG fp fd)) [.val (.str "tries")] (fun t => t ∈ rowsT) := fun x gs hg hx => by
  refine row_ret (fun m A => ?_) hg hx
  obtain ⟨t1, x1, gs1, m1, c1, ⟨r, rfl, hr⟩, A1, o1⟩ := (hf.deal (n := 3) (by decide)).at_ (v0c v0n) A
  obtain ⟨t2, x2, gs2, m2, c2, h2, A2, o2⟩ := (hp [.str "fault", .str "all"] (by decide) (by decide)).at_ (v0c v0n) A1
  refine ⟨.tup [.str "tries", .int (1 + r), t2], x2, gs2, m2, sd_rt (f := bRowG fp fd) (s1 := ⟨slR "tries", m2⟩) ?_, ?_, A2⟩
  · exact st_seq (st_ifn (eq_row (by decide +kernel) (by decide +kernel) rfl) rfl) (st_seq_rt (st_if (eq_row (by decide +kernel) (by decide +kernel) rfl) (st_ret (se_tup (sa_cons (se_var rfl) (sa_cons (se_bin se_c (se_call (sa_cons (se_var rfl) (sa_cons rfl sa_nil)) c1) rfl) (sa_cons (se_call (sa_cons (se_var rfl) (sa_cons rfl sa_nil)) c2) sa_nil))) rfl (Nat.le_trans (show _ ≤ 3 by simp) (by decide))))))
  · have hr' : r = 0 ∨ r = 1 ∨ r = 2 := by omega
    simp only [List.mem_cons, List.not_mem_nil, or_false] at h2
    rcases hr' with rfl | rfl | rfl <;> rcases h2 with rfl | rfl <;> simp [rowsT]
theorem row_limit (hf : DrawOk key fd) : DealOk key (vDef 2 (bRowG fp fd)) [.val (.str "limit")] (fun t => t ∈ rowsT) := fun x gs hg hx => by
  refine row_ret (fun m A => ?_) hg hx
  obtain ⟨t1, x1, gs1, m1, c1, ⟨r, rfl, hr⟩, A1, o1⟩ := (hf.deal (n := 4) (by decide)).at_ (v0c v0n) A
  refine ⟨.tup [.str "limit", .int (1 + r)], x1, gs1, m1, sd_rt (f := bRowG fp fd) (s1 := ⟨slR "limit", m1⟩) ?_, ?_, A1⟩
  · exact st_seq (st_ifn (eq_row (by decide +kernel) (by decide +kernel) rfl) rfl) (st_seq (st_ifn (eq_row (by decide +kernel) (by decide +kernel) rfl) rfl) (st_seq_rt (st_if (eq_row (by decide +kernel) (by decide +kernel) rfl) (st_ret (se_tup (sa_cons (se_var rfl) (sa_cons (se_bin se_c (se_call (sa_cons (se_var rfl) (sa_cons rfl sa_nil)) c1) rfl) sa_nil)) rfl (Nat.le_trans (show _ ≤ 3 by simp) (by decide)))))))
  · have hr' : r = 0 ∨ r = 1 ∨ r = 2 ∨ r = 3 := by omega
    rcases hr' with rfl | rfl | rfl | rfl <;> simp [rowsT]
theorem row_soft (hp : ∀ us : List T, 0 < us.length → us.length ≤ 900 → DealOk key fp [.val (.lst us)] (fun t => t ∈ us)) : DealOk key (vDef 2 (bRowG fp fd)) [.val (.str "soft")] (fun t => t ∈ rowsT) := fun x gs hg hx => by
  refine row_ret (fun m A => ?_) hg hx
  obtain ⟨t2, x2, gs2, m2, c2, h2, A2, o2⟩ := (hp [.str "fault", .str "all"] (by decide) (by decide)).at_ (v0c v0n) A
  refine ⟨.tup [.str "soft", t2], x2, gs2, m2, sd_rt (f := bRowG fp fd) (s1 := ⟨slR "soft", m2⟩) ?_, ?_, A2⟩
  · exact st_seq (st_ifn (eq_row (by decide +kernel) (by decide +kernel) rfl) rfl) (st_seq (st_ifn (eq_row (by decide +kernel) (by decide +kernel) rfl) rfl) (st_seq (st_ifn (eq_row (by decide +kernel) (by decide +kernel) rfl) rfl) (st_ret (se_if (eq_row (by decide +kernel) (by decide +kernel) rfl) (se_tup (sa_cons (se_var rfl) (sa_cons (se_call (sa_cons (se_var rfl) (sa_cons rfl sa_nil)) c2) sa_nil)) rfl (Nat.le_trans (show _ ≤ 3 by simp) (by decide)))))))
  · simp only [List.mem_cons, List.not_mem_nil, or_false] at h2
    rcases h2 with rfl | rfl <;> simp [rowsT]
theorem row_bare (h0 : PyData.strOk z = true) (h1 : decide (z = "keep") = false) (h2 : decide (z = "tries") = false) (h3 : decide (z = "limit") = false) (h4 : decide (z = "soft") = false) (h : .tup [.str z] ∈ rowsT) : DealOk key (vDef 2 (bRowG fp fd)) [.val (.str z)] (fun t => t ∈ rowsT) := fun x gs hg hx => by
  refine row_ret (fun m A => ?_) hg hx
  refine ⟨.tup [.str z], x, gs, m, sd_rt (f := bRowG fp fd) (s1 := ⟨slR z, m⟩) ?_, h, A⟩
  exact st_seq (st_ifn (eq_row h0 (by decide +kernel) h1) rfl) (st_seq (st_ifn (eq_row h0 (by decide +kernel) h2) rfl) (st_seq (st_ifn (eq_row h0 (by decide +kernel) h3) rfl) (st_ret (se_ifn (eq_row h0 (by decide +kernel) h4) (se_tup (sa_cons (se_var rfl) sa_nil) rfl (Nat.le_trans (show _ ≤ 3 by simp) (by decide)))))))
/-- a row of the sort -/
def RowOk (key : Str) (fr : VF) : Prop := ∀ z ∈ sortsT, DealOk key fr [.val (.str z)] (fun t => t ∈ rowsT)
theorem row_ok (hf : DrawOk key fd) : RowOk key (vDef 2 (bRowG (vDef 2 (bPickG fd)) fd)) := fun z hz => by
  simp only [sortsT, List.mem_cons, List.not_mem_nil, or_false] at hz
  rcases hz with rfl | rfl | rfl | rfl | rfl | rfl | rfl
  · exact row_keep fun us h1 h2 => pick_ok hf h1 h2
  · exact row_tries hf fun us h1 h2 => pick_ok hf h1 h2
  · exact row_limit hf
  · exact row_bare (by decide +kernel) rfl rfl rfl rfl (by simp [rowsT])
  · exact row_soft fun us h1 h2 => pick_ok hf h1 h2
  · exact row_bare (by decide +kernel) rfl rfl rfl rfl (by simp [rowsT])
  · exact row_bare (by decide +kernel) rfl rfl rfl rfl (by simp [rowsT])
end
/-! ### rows -/
def sorts12 : List T := [.str "keep", .str "tries", .str "limit", .str "leave", .str "soft", .str "count", .str "lend", .str "keep", .str "tries", .str "soft", .str "count", .str "leave"]
def bRowsG (fm fr : VF) : VS := (vSeq (vSet 2 (vVal (vLst (vCons (vC (.str "keep")) (vCons (vC (.str "tries")) (vCons (vC (.str "limit")) (vCons (vC (.str "leave")) (vCons (vC (.str "soft")) (vCons (vC (.str "count")) (vCons (vC (.str "lend")) (vCons (vC (.str "keep")) (vCons (vC (.str "tries")) (vCons (vC (.str "soft")) (vCons (vC (.str "count")) (vCons (vC (.str "leave")) vNil)))))))))))))))
    (vRet (vVal (vComp [3] (vItems (vVal (vSliceL (vCall fm (vCons (vVar 0) (vCons (vVar 2) vNil))) vNoPart (vPart (vVar 1))))) (vgName 3) vYes (vCall fr (vCons (vVar 0) (vCons (vVar 3) vNil)))))))
def MixOk (key : Str) (fm : VF) : Prop := ∀ us : List T, us.length ≤ 900 → DealOk key fm [.val (.lst us)] (fun t => ∃ fo, t = .lst fo ∧ (∀ u ∈ fo, u ∈ us) ∧ fo.length = us.length)
theorem sorts12_mem {t : T} (h : t ∈ sorts12) : ∃ z ∈ sortsT, t = .str z := by
  simp only [sorts12, List.mem_cons, List.not_mem_nil, or_false] at h
  rcases h with rfl | rfl | rfl | rfl | rfl | rfl | rfl | rfl | rfl | rfl | rfl | rfl <;> exact ⟨_, by simp [sortsT], rfl⟩
section
variable {key : Str} {fm fr : VF}
theorem coll_rows (hr : RowOk key fr) {o1 o2 : Option Sl} : ∀ (us : List T) (m : List MO) (x : Int) (gs : List Int) (acc : List T), (∀ t ∈ us, t ∈ sorts12) → us.length + acc.length ≤ 900 → DealAt key m 0 1 x gs → (∀ t ∈ acc, t ∈ rowsT) →
    ∃ rs m' x' gs', vColl (vgName 3) vYes (vCall fr (vCons (vVar 0) (vCons (vVar 3) vNil))) [some (.own 0), o1, o2, none] us m acc = rM rs m' ∧ (∀ t ∈ rs, t ∈ rowsT) ∧ rs.length = us.length + acc.length ∧ DealAt key m' 0 1 x' gs'
  | [], m, x, gs, acc, _, _, A, ha => ⟨acc, m, x, gs, rfl, ha, by simp, A⟩
  | u :: us, m, x, gs, acc, hu, hz, A, ha => by
    obtain ⟨z, hs, rfl⟩ := sorts12_mem (hu u (List.mem_cons_self ..))
    obtain ⟨t, x1, gs1, m1, c1, h1, A1, _⟩ := (hr z hs).at_ (v0c v0n) A
    rw [List.length_cons] at hz
    obtain ⟨rs, m', x', gs', e, q1, q2, q3⟩ := coll_rows hr us m1 x1 gs1 (acc ++ [t]) (fun t h => hu t (List.mem_cons_of_mem _ h)) (by rw [List.length_append, List.length_singleton]; omega) A1 (fun v hv => by
      rcases List.mem_append.mp hv with hv | hv
      · exact ha v hv
      · rw [List.mem_singleton.mp hv]; exact h1)
    refine ⟨rs, m', x', gs', ?_, q1, by rw [q2, List.length_append, List.length_singleton, List.length_cons]; omega, q3⟩
    have k : vCall fr (vCons (vVar 0) (vCons (vVar 3) vNil)) ⟨[some (.own 0), o1, o2, some (.val (.str z))], m⟩ = rM (.val t) m1 := se_call (sa_cons (se_var rfl) (sa_cons (se_var rfl) sa_nil)) c1
    unfold vColl
    show (match vCall fr (vCons (vVar 0) (vCons (vVar 3) vNil)) ⟨[some (.own 0), o1, o2, some (.val (.str z))], m⟩ with
      | some (.ok (.val u), m2) => if acc.length < SZ then vColl (vgName 3) vYes (vCall fr (vCons (vVar 0) (vCons (vVar 3) vNil))) [some (.own 0), o1, o2, none] us m2 (acc ++ [u]) else none
      | _ => none) = _
    rw [k]
    show (if acc.length < SZ then _ else _) = _
    rw [if_pos (by have : SZ = 1000000 := rfl; omega)]
    exact e
theorem take_cut (us : List T) (n : Nat) : cutT us none (some (n : Int)) = us.take n := by
  unfold cutT
  have e0 : HT.sIx us.length 0 none = 0 := rfl
  have e1 : HT.sIx us.length us.length (some (n : Int)) = min n us.length := by
    unfold HT.sIx
    simp
    try omega
  rw [e0, e1, List.drop_zero, Nat.sub_zero]
  by_cases h : n ≤ us.length
  · rw [Nat.min_eq_left h]
  · rw [Nat.min_eq_right (by omega), List.take_of_length_le (Nat.le_refl _), List.take_of_length_le (by omega)]
theorem rows_ok (hm : MixOk key fm) (hr : RowOk key fr) (n : Nat) : DealOk key (vDef 4 (bRowsG fm fr)) [.val (.int (n : Int))] (fun t => ∃ rs, t = .lst rs ∧ (∀ u ∈ rs, u ∈ rowsT) ∧ rs.length = min n 12) := fun x gs hg hx => by
  refine row_ret (fun m A => ?_) hg hx
  obtain ⟨t1, x1, gs1, m1, c1, ⟨fo, rfl, hfo, lfo⟩, A1, _⟩ := (hm sorts12 (by decide)).at_ (v0c v0n) A
  have l12 : fo.length = 12 := lfo
  have lt : (fo.take n).length = min n 12 := by rw [List.length_take, l12]
  obtain ⟨rs, m', x', gs', e, q1, q2, q3⟩ := coll_rows hr (o1 := some (.val (.int (n : Int)))) (o2 := some (.val (.lst sorts12))) (fo.take n) m1 x1 gs1 [] (fun t h => hfo t (List.mem_of_mem_take h)) (by rw [lt]; simp; omega) A1 (fun t h => nomatch h)
  rw [lt] at q2
  refine ⟨.lst rs, x', gs', m', sd_rt (f := bRowsG fm fr) (s1 := ⟨[some (.own 0), some (.val (.int (n : Int))), some (.val (.lst sorts12)), none], m'⟩) ?_, ⟨rs, rfl, q1, by simpa using q2⟩, q3⟩
  have sl : vSliceL (vCall fm (vCons (vVar 0) (vCons (vVar 2) vNil))) vNoPart (vPart (vVar 1)) ⟨[some (.own 0), some (.val (.int (n : Int))), some (.val (.lst sorts12)), none], m⟩ = rM (fo.take n) m1 := by
    unfold vSliceL
    rw [show vCall fm (vCons (vVar 0) (vCons (vVar 2) vNil)) ⟨[some (.own 0), some (.val (.int (n : Int))), some (.val (.lst sorts12)), none], m⟩ = rM (.val (.lst fo)) m1 from se_call (sa_cons (se_var rfl) (sa_cons (se_var rfl) sa_nil)) c1]
    show (if fo.length ≤ SZ then rM (cutT fo none (some (n : Int))) m1 else none) = _
    rw [if_pos (by have : SZ = 1000000 := rfl; omega), take_cut]
  have it : vItems (vVal (vSliceL (vCall fm (vCons (vVar 0) (vCons (vVar 2) vNil))) vNoPart (vPart (vVar 1)))) ⟨[some (.own 0), some (.val (.int (n : Int))), some (.val (.lst sorts12)), none], m⟩ = rM (fo.take n) m1 := si_items (se_val sl) rfl
  have cm : vComp [3] (vItems (vVal (vSliceL (vCall fm (vCons (vVar 0) (vCons (vVar 2) vNil))) vNoPart (vPart (vVar 1))))) (vgName 3) vYes (vCall fr (vCons (vVar 0) (vCons (vVar 3) vNil))) ⟨[some (.own 0), some (.val (.int (n : Int))), some (.val (.lst sorts12)), none], m⟩ = rM rs m' := by
    unfold vComp
    rw [it]
    exact e
  exact st_seq (s1 := ⟨[some (.own 0), some (.val (.int (n : Int))), some (.val (.lst sorts12)), none], m⟩) rfl (st_ret (se_val cm))
end
end Vs
end
section
/-! MakeP: instances made and frozen in any store; own == and != of frozen instances. -/
namespace Vs
open PySem PySem.Spec PyProof.Rows L2
/-- fields that own nothing -/
def valF (ts : List (Str × T)) : List (Str × Sl) := ts.map fun p => (p.1, .val p.2)
theorem back_valF {ids : List Nat} {k : Nat} : ∀ ts : List (Str × T), backF ids k (valF ts) = valF ts
  | [] => rfl
  | (x, t) :: r => by
    show (x, backS ids k (.val t)) :: backF ids k (valF r) = _
    rw [back_valF r]
    rfl
theorem frz_valF {m : List MO} : ∀ ts : List (Str × T), frzFs (valF ts) m = some (ts, m)
  | [] => rfl
  | (x, t) :: r => by
    show frzFs ((x, .val t) :: valF r) m = _
    unfold frzFs
    rw [frz_valF r]
theorem put_last {n k : Nat} {u o : MO} : ∀ (m : List MO) (i : Nat), n = i + m.length → putFrom [n] k [u] (m ++ [o]) i = m ++ [backM [n] k u]
  | [], i, h => by
    have e : n = i := by simpa using h
    subst e
    show putFrom [n] k [u] [o] n = _
    unfold putFrom
    have : ixOf [n] n = some 0 := by unfold ixOf; rw [if_pos rfl]
    rw [this]
    rfl
  | a :: r, i, h => by
    rw [List.length_cons] at h
    show putFrom [n] k [u] (a :: (r ++ [o])) i = _
    unfold putFrom
    have : ixOf [n] i = none := by
      unfold ixOf
      rw [if_neg (by omega)]
      rfl
    rw [this, put_last r (i + 1) (by omega)]
    rfl
theorem call_new {vf : VF} {vals : List Sl} {t : T} {C : Addr} {ts : List (Str × T)} {m : List MO} (hv : Vals0 vals) (h : vf (.own 0 :: vals) [.ins C []] = some (.ok (.val t), [.ins C (valF ts)])) :
    callM vf (.own m.length :: vals) (m ++ [.ins C []]) = rM (.val t) (m ++ [.ins C (valF ts)]) := by
  have at_ : (m ++ [MO.ins C []])[m.length]? = some (.ins C []) := by rw [List.getElem?_append_right (Nat.le_refl _), Nat.sub_self]; rfl
  unfold callM
  have eo : owns (.own m.length :: vals) = [m.length] := by show m.length :: owns vals = _; rw [owns0 hv]
  have eg : grow (m ++ [.ins C []]) 100 [m.length] [] = [m.length] := by
    show grow _ (99 + 1) [m.length] [] = _
    unfold grow
    rw [if_neg (by simp), at_]
    rfl
  rw [eo, eg]
  have er : renSs [m.length] (.own m.length :: vals) = some (.own 0 :: vals) := by
    unfold renSs
    rw [ren0 hv]
    have : renS [m.length] (.own m.length) = some (.own 0) := by
      show Option.map Sl.own (if m.length = m.length then some 0 else _) = _
      rw [if_pos rfl]
      rfl
    rw [this]
  have em : renMs [m.length] (m ++ [.ins C []]) [m.length] = some [.ins C []] := by
    unfold renMs
    rw [at_]
    rfl
  simp only [if_pos ((by simp : [m.length].Nodup)), er, em, h]
  show (if 1 ≤ 1 then _ else _) = _
  rw [if_pos (Nat.le_refl _)]
  unfold putAll
  rw [put_last m 0 (by omega)]
  show some (Out.ok (Sl.val t), (m ++ [backM [m.length] _ (.ins C (valF ts))]) ++ []) = _
  rw [List.append_nil]
  show some (Out.ok (Sl.val t), m ++ [.ins C (backF [m.length] _ (valF ts))]) = _
  rw [back_valF]
section
variable {s : S} {m1 m2 : List MO} {C : Addr} {vf : VF} {ts : List (Str × T)} {vals : List Sl} {fa : VA}
theorem ins_last {m : List MO} : gInsD (.own m.length) (m ++ [.ins C (valF ts)]) = rM (.val (.ins C ts)) (m ++ [.dead]) := by
  have at_ : (m ++ [MO.ins C (valF ts)])[m.length]? = some (.ins C (valF ts)) := by rw [List.getElem?_append_right (Nat.le_refl _), Nat.sub_self]; rfl
  unfold gInsD
  simp only [at_, frz_valF]
  rw [List.set_append_right _ _ (Nat.le_refl _), Nat.sub_self]
  rfl
theorem se_make (ha : fa s = rM vals m1) (hv : Vals0 vals) (h : vf (.own 0 :: vals) [.ins C []] = some (.ok (.val .non), [.ins C (valF ts)])) : vInsD (vMake C vf fa) s = rM (.val (.ins C ts)) (m1 ++ [.dead]) := by
  have e : vMake C vf fa s = rM (.own m1.length) (m1 ++ [.ins C (valF ts)]) := by
    unfold vMake
    rw [ha]
    show bM (callM vf (.own m1.length :: vals) (m1 ++ [.ins C []])) _ = _
    rw [call_new hv h]
    rfl
  unfold vInsD
  rw [e]
  exact ins_last
theorem se_makeD {dts : List T} (ha : fa s = rM vals m1) (hv : Vals0 (vals ++ dts.map .val)) (h : vf (.own 0 :: (vals ++ dts.map .val)) [.ins C []] = some (.ok (.val .non), [.ins C (valF ts)])) : vInsD (vMakeD C vf dts fa) s = rM (.val (.ins C ts)) (m1 ++ [.dead]) := by
  have e : vMakeD C vf dts fa s = rM (.own m1.length) (m1 ++ [.ins C (valF ts)]) := by
    unfold vMakeD
    rw [ha]
    show bM (callM vf (.own m1.length :: (vals ++ dts.map .val)) (m1 ++ [.ins C []])) _ = _
    rw [call_new hv h]
    rfl
  unfold vInsD
  rw [e]
  exact ins_last
theorem se_makeO : vInsD (vMakeO C) s = rM (.val (.ins C [])) (s.m ++ [.dead]) := by
  unfold vInsD vMakeO
  exact ins_last (ts := [])
theorem se_eqO {ok : Addr → Ty → Bool} {f : Bool → Bool} {fe ge : VE} {C D : Addr} {ts us : List (Str × T)} {k : Bool} {sub : List MO} (h1 : fe s = rM (.val (.ins C ts)) m1) (h2 : ge ⟨s.ρ, m1⟩ = rM (.val (.ins D us)) m2) (o : ok C (.cls D) = true)
    (h : vf [.val (.ins C ts), .val (.ins D us)] [] = some (.ok (.val (.bl k)), sub)) : ∃ X, vBin (gEqO ok vf f) fe ge s = rM (.val (.bl (f k))) (m2 ++ X) := by
  obtain ⟨X, e⟩ := call_val (m := m2) (as := [.val (.ins C ts), .val (.ins D us)]) rfl rfl h
  refine ⟨X, se_bin h1 h2 ?_⟩
  show (if ok C (.cls D) = true then blOf f (callM vf [.val (.ins C ts), .val (.ins D us)] m2) else none) = _
  rw [if_pos o, e]
  rfl
end
end Vs
end
section
namespace Vw
open PySem PySem.Spec PyProof.Rows L2 Own Vs
def top (i : Nat) : Stmt := PySem.Challenge.pw_outermost_k02_rows_made.main.body.getD i (.Pass ⟨0, 0, 0, 0⟩)
abbrev s_InvalidRow_init : Stmt := inClass (top 2) 0
abbrev s_InvalidText_init : Stmt := inClass (top 3) 0
abbrev s_is_integer : Stmt := top 5
abbrev s_Row_read : Stmt := inClass (top 12) 0
abbrev s_Row_words : Stmt := inClass (top 12) 1
abbrev s_Row_eq : Stmt := inClass (top 12) 2
abbrev s_Row_str : Stmt := inClass (top 12) 3
abbrev s_Keep_init : Stmt := inClass (top 13) 0
abbrev s_Keep_words : Stmt := inClass (top 13) 1
abbrev s_Tries_init : Stmt := inClass (top 14) 0
abbrev s_Tries_words : Stmt := inClass (top 14) 1
abbrev s_Limit_init : Stmt := inClass (top 15) 0
abbrev s_Limit_words : Stmt := inClass (top 15) 1
abbrev s_Leave_words : Stmt := inClass (top 16) 0
abbrev s_Soft_init : Stmt := inClass (top 17) 0
abbrev s_Soft_words : Stmt := inClass (top 17) 1
abbrev s_Count_words : Stmt := inClass (top 18) 0
abbrev s_Lend_words : Stmt := inClass (top 19) 0
abbrev s_is_one_of : Stmt := top 20
abbrev s_check_argument : Stmt := top 21
abbrev s_every_row : Stmt := top 22
abbrev s_law_source : Stmt := top 24
abbrev s_law_draw : Stmt := top 25
abbrev s_law_pick : Stmt := top 26
abbrev s_law_mixed : Stmt := top 27
abbrev s_law_row : Stmt := top 28
abbrev s_law_rows : Stmt := top 29
abbrev s_law_row_text : Stmt := top 30
abbrev s_law_every : Stmt := top 31
abbrev s_law_parts_right : Stmt := top 32
abbrev s_law : Stmt := top 33
section
variable [WW]
variable {P : Program} {w : World} {K : PySem.W.Frag} {mg : Str → Option Value} {base : Heap}
structure CS where
  WrapError : Addr
  InvalidRow : Addr
  InvalidText : Addr
  Row : Addr
  Keep : Addr
  Tries : Addr
  Limit : Addr
  Leave : Addr
  Soft : Addr
  Count : Addr
  Lend : Addr
def ctB (c : CS) : Addr → Option Bool := fun C => if C ∈ [c.Row, c.Keep, c.Tries, c.Limit, c.Leave, c.Soft, c.Count, c.Lend] then some false else none
def ct_Row (c : CS) : Addr → Option Bool := fun C => if C ∈ [c.Row, c.Keep, c.Tries, c.Limit, c.Leave, c.Soft, c.Count, c.Lend] then some true else if C ∈ [] then some false else none
def ct_Keep (c : CS) : Addr → Option Bool := fun C => if C ∈ [c.Keep] then some true else if C ∈ [c.Row, c.Tries, c.Limit, c.Leave, c.Soft, c.Count, c.Lend] then some false else none
def ct_Tries (c : CS) : Addr → Option Bool := fun C => if C ∈ [c.Tries] then some true else if C ∈ [c.Row, c.Keep, c.Limit, c.Leave, c.Soft, c.Count, c.Lend] then some false else none
def ct_Limit (c : CS) : Addr → Option Bool := fun C => if C ∈ [c.Limit] then some true else if C ∈ [c.Row, c.Keep, c.Tries, c.Leave, c.Soft, c.Count, c.Lend] then some false else none
def ct_Leave (c : CS) : Addr → Option Bool := fun C => if C ∈ [c.Leave] then some true else if C ∈ [c.Row, c.Keep, c.Tries, c.Limit, c.Soft, c.Count, c.Lend] then some false else none
def ct_Soft (c : CS) : Addr → Option Bool := fun C => if C ∈ [c.Soft] then some true else if C ∈ [c.Row, c.Keep, c.Tries, c.Limit, c.Leave, c.Count, c.Lend] then some false else none
def ct_Count (c : CS) : Addr → Option Bool := fun C => if C ∈ [c.Count] then some true else if C ∈ [c.Row, c.Keep, c.Tries, c.Limit, c.Leave, c.Soft, c.Lend] then some false else none
def ct_Lend (c : CS) : Addr → Option Bool := fun C => if C ∈ [c.Lend] then some true else if C ∈ [c.Row, c.Keep, c.Tries, c.Limit, c.Leave, c.Soft, c.Count] then some false else none
def mt_WrapError (c : CS) : Addr → Option Bool := fun C => if C ∈ [c.WrapError, c.InvalidRow, c.InvalidText] then some true else if C ∈ [] then some false else none
def mt_InvalidRow (c : CS) : Addr → Option Bool := fun C => if C ∈ [c.InvalidRow] then some true else if C ∈ [c.WrapError, c.InvalidText] then some false else none
def mt_InvalidText (c : CS) : Addr → Option Bool := fun C => if C ∈ [c.InvalidText] then some true else if C ∈ [c.WrapError, c.InvalidRow] then some false else none
def okq_Row (c : CS) : Addr → Ty → Bool := fun C y => match y with | .cls D => decide (C ∈ [c.Keep, c.Tries, c.Limit, c.Leave, c.Soft, c.Count, c.Lend]) && decide (D ∈ [c.Keep, c.Tries, c.Limit, c.Leave, c.Soft, c.Count, c.Lend]) | _ => false
def okq_Keep (c : CS) : Addr → Ty → Bool := fun C y => match y with | .cls D => decide (C ∈ [c.Keep]) && decide (D ∈ [c.Keep]) | _ => false
def okq_Tries (c : CS) : Addr → Ty → Bool := fun C y => match y with | .cls D => decide (C ∈ [c.Tries]) && decide (D ∈ [c.Tries]) | _ => false
def okq_Limit (c : CS) : Addr → Ty → Bool := fun C y => match y with | .cls D => decide (C ∈ [c.Limit]) && decide (D ∈ [c.Limit]) | _ => false
def okq_Leave (c : CS) : Addr → Ty → Bool := fun C y => match y with | .cls D => decide (C ∈ [c.Leave]) && decide (D ∈ [c.Leave]) | _ => false
def okq_Soft (c : CS) : Addr → Ty → Bool := fun C y => match y with | .cls D => decide (C ∈ [c.Soft]) && decide (D ∈ [c.Soft]) | _ => false
def okq_Count (c : CS) : Addr → Ty → Bool := fun C y => match y with | .cls D => decide (C ∈ [c.Count]) && decide (D ∈ [c.Count]) | _ => false
def okq_Lend (c : CS) : Addr → Ty → Bool := fun C y => match y with | .cls D => decide (C ∈ [c.Lend]) && decide (D ∈ [c.Lend]) | _ => false
def ok_Row (c : CS) : Addr → Bool := fun C => decide (C ∈ [c.Row, c.Keep, c.Tries, c.Limit, c.Leave, c.Soft, c.Count, c.Lend])
def ok_Keep (c : CS) : Addr → Bool := fun C => decide (C ∈ [c.Keep])
def ok_Tries (c : CS) : Addr → Bool := fun C => decide (C ∈ [c.Tries])
def ok_Limit (c : CS) : Addr → Bool := fun C => decide (C ∈ [c.Limit])
def ok_Leave (c : CS) : Addr → Bool := fun C => decide (C ∈ [c.Leave])
def ok_Soft (c : CS) : Addr → Bool := fun C => decide (C ∈ [c.Soft])
def ok_Count (c : CS) : Addr → Bool := fun C => decide (C ∈ [c.Count])
def ok_Lend (c : CS) : Addr → Bool := fun C => decide (C ∈ [c.Lend])
def okA (c : CS) : Addr → Bool := fun C => decide (C ∈ [c.Row, c.Keep, c.Tries, c.Limit, c.Leave, c.Soft, c.Count, c.Lend])
def okR (c : CS) : Addr → Bool := fun C => decide (C ∈ [c.Row, c.Keep, c.Tries, c.Limit, c.Leave, c.Soft, c.Count, c.Lend])
variable {c : CS}
abbrev n_check_argument : List Str := ["word", "is_right"]
theorem sc_check_argument : FnScope n_check_argument ["word", "is_right"] (defScope s_check_argument) := ⟨rfl, rfl, rfl, by decide +kernel, rfl, by decide +kernel, by decide +kernel⟩
def b_check_argument (c : CS) : VS := (vIf (vNot (vTruth (vVar 1))) vNever vNext)
def f_check_argument (c : CS) : VF := vDef 2 (b_check_argument c)
theorem okv_check_argument {f : Addr} {fd : FuncData} (F : Fun K "check_argument" "check_argument" s_check_argument f fd) (B : Bn mg) : FnOk P w K mg base (L2.CX P w) 1 f fd ["word", "is_right"] (SpV K 2 (f_check_argument c)) :=
  okV F sc_check_argument fun cdv A outer s H E hr => (pss_vone (ps_vif (pt_vnot (pt_vtruth (pe_vvar 1))) (pss_vone ps_vnever) pss_vnil))
abbrev n_is_integer : List Str := ["value"]
theorem sc_is_integer : FnScope n_is_integer ["value"] (defScope s_is_integer) := ⟨rfl, rfl, rfl, by decide +kernel, rfl, by decide +kernel, by decide +kernel⟩
def b_is_integer (c : CS) : VS := (vRet (vAndV (vIsi (tyTab isIntB (ctB c)) (vVar 0)) (vNotV (vIsi (tyTab isBlB (ctB c)) (vVar 0)))))
def f_is_integer (c : CS) : VF := vDef 1 (b_is_integer c)
theorem okv_is_integer {f : Addr} {fd : FuncData} (F : Fun K "is_integer" "is_integer" s_is_integer f fd) (B : Bn mg) (I_bool : CtOk K (.type "bool") (ctB c)) (I_int : CtOk K (.type "int") (ctB c)) : FnOk P w K mg base (L2.CX P w) 1 f fd ["value"] (SpV K 1 (f_is_integer c)) :=
  okV F sc_is_integer fun cdv A outer s H E hr => (pss_vone (ps_vret (pe_vandV (pe_visi (tyTab isIntB (ctB c)) (isT1 kInt I_int) (by rfl) B.isinstance_ (pe_vvar 0) (pe_bltn (by rfl) B.int_ (by decide +kernel) (v := .ty "int") rfl) (.ty _)) (pe_vone (pe_vnotV (pe_visi (tyTab isBlB (ctB c)) (isT1 kBl I_bool) (by rfl) B.isinstance_ (pe_vvar 0) (pe_bltn (by rfl) B.bool_ (by decide +kernel) (v := .ty "bool") rfl) (.ty _)))))))
abbrev n_is_one_of : List Str := ["value", "numbers"]
theorem sc_is_one_of : FnScope n_is_one_of ["value", "numbers"] (defScope s_is_one_of) := ⟨rfl, rfl, rfl, by decide +kernel, rfl, by decide +kernel, by decide +kernel⟩
def b_is_one_of (c : CS) : VS := (vRet (vAndV (vCall (f_is_integer c) (vCons (vVar 0) vNil)) (vBin (gInFlat false) (vVar 0) (vVar 1))))
def f_is_one_of (c : CS) : VF := vDef 2 (b_is_one_of c)
theorem okv_is_one_of {f : Addr} {fd : FuncData} (F : Fun K "is_one_of" "is_one_of" s_is_one_of f fd) (B : Bn mg) (D_is_integer : DV P w K mg base "is_integer" 1 1 (f_is_integer c)) : FnOk P w K mg base (L2.CX P w) 2 f fd ["value", "numbers"] (SpV K 2 (f_is_one_of c)) :=
  okV F sc_is_one_of fun cdv A outer s H E hr => (pss_vone (ps_vret (pe_vandV (pe_vcall D_is_integer.g (hr.mono (by decide)) (by rfl) D_is_integer.m D_is_integer.kp D_is_integer.b (takes_of rfl rfl rfl rfl) (pa_vcons (pe_vvar 0) pa_vnil) (vcons_len vnil_len)) (pe_vone (pe_vinF (by rfl) (pe_vvar 0) (pe_vvar 1))))))
abbrev n_Limit_init : List Str := ["self", "many"]
theorem sc_Limit_init : FnScope n_Limit_init ["self", "many"] (defScope s_Limit_init) := ⟨rfl, rfl, rfl, by decide +kernel, rfl, by decide +kernel, by decide +kernel⟩
def b_Limit_init (c : CS) : VS := (vSeq (vDrop (vCall (f_check_argument c) (vCons (vC (.str "many")) (vCons (vCall (f_is_one_of c) (vCons (vVar 1) (vCons (vC (.tup [(.int 1), (.int 2), (.int 3), (.int 4), (.int 5), (.int 6)])) vNil))) vNil))))
    (vSetF (okA c) "many" (vVar 0) (vVar 1)))
def f_Limit_init (c : CS) : VF := vDef 2 (b_Limit_init c)
theorem okv_Limit_init {f : Addr} {fd : FuncData} (F : Fun K "__init__" "Limit.__init__" s_Limit_init f fd) (B : Bn mg) (D_check_argument : DV P w K mg base "check_argument" 1 2 (f_check_argument c)) (D_is_one_of : DV P w K mg base "is_one_of" 2 2 (f_is_one_of c)) (O_many : FldOk K "many" (okA c)) (G_MOST_TRIES : GV K mg "MOST_TRIES" (.tup [(.int 1), (.int 2), (.int 3), (.int 4), (.int 5), (.int 6)])) : FnOk P w K mg base (L2.CX P w) 3 f fd ["self", "many"] (SpV K 2 (f_Limit_init c)) :=
  okV F sc_Limit_init fun cdv A outer s H E hr => (pss_vcons (ps_vexpr (pe_vcall D_check_argument.g (hr.mono (by decide)) (by rfl) D_check_argument.m D_check_argument.kp D_check_argument.b (takes_of rfl rfl rfl rfl) (pa_vcons pe_vstr (pa_vcons (pe_vcall D_is_one_of.g (hr.mono (by decide)) (by rfl) D_is_one_of.m D_is_one_of.kp D_is_one_of.b (takes_of rfl rfl rfl rfl) (pa_vcons (pe_vvar 1) (pa_vcons (pe_vglob (by rfl) G_MOST_TRIES.m G_MOST_TRIES.r G_MOST_TRIES.rp) pa_vnil)) (vcons_len (vcons_len vnil_len))) pa_vnil)) (vcons_len (vcons_len vnil_len))))
    (pss_vone (ps_vsetF (okA c) O_many (pe_vvar 0) (pe_vvar 1))))
abbrev n_Soft_init : List Str := ["self", "on"]
theorem sc_Soft_init : FnScope n_Soft_init ["self", "on"] (defScope s_Soft_init) := ⟨rfl, rfl, rfl, by decide +kernel, rfl, by decide +kernel, by decide +kernel⟩
def b_Soft_init (c : CS) : VS := (vSeq (vDrop (vCall (f_check_argument c) (vCons (vC (.str "on")) (vCons (vBin (gInFlat false) (vVar 1) (vC (.tup [(.str "fault"), (.str "all")]))) vNil))))
    (vSetF (okA c) "on" (vVar 0) (vVar 1)))
def f_Soft_init (c : CS) : VF := vDef 2 (b_Soft_init c)
theorem okv_Soft_init {f : Addr} {fd : FuncData} {dvs : List V} (F : FunD K "__init__" "Soft.__init__" (defArgs s_Soft_init) (defBody s_Soft_init) (defScope s_Soft_init) dvs [] f fd) (B : Bn mg) (D_check_argument : DV P w K mg base "check_argument" 1 2 (f_check_argument c)) (O_on : FldOk K "on" (okA c)) (G_FAULTS : GV K mg "FAULTS" (.tup [(.str "fault"), (.str "all")])) : FnOk P w K mg base (L2.CX P w) 2 f fd ["self", "on"] (SpV K 2 (f_Soft_init c)) :=
  okVD F sc_Soft_init fun cdv A outer s H E hr => (pss_vcons (ps_vexpr (pe_vcall D_check_argument.g (hr.mono (by decide)) (by rfl) D_check_argument.m D_check_argument.kp D_check_argument.b (takes_of rfl rfl rfl rfl) (pa_vcons pe_vstr (pa_vcons (pe_vinF (by rfl) (pe_vvar 1) (pe_vglob (by rfl) G_FAULTS.m G_FAULTS.r G_FAULTS.rp)) pa_vnil)) (vcons_len (vcons_len vnil_len))))
    (pss_vone (ps_vsetF (okA c) O_on (pe_vvar 0) (pe_vvar 1))))
abbrev n_Keep_init : List Str := ["self", "what", "life"]
theorem sc_Keep_init : FnScope n_Keep_init ["self", "what", "life"] (defScope s_Keep_init) := ⟨rfl, rfl, rfl, by decide +kernel, rfl, by decide +kernel, by decide +kernel⟩
def b_Keep_init (c : CS) : VS := (vSeq (vDrop (vCall (f_check_argument c) (vCons (vC (.str "what")) (vCons (vBin (gInFlat false) (vVar 1) (vC (.tup [(.str "good"), (.str "all")]))) vNil))))
    (vSeq (vDrop (vCall (f_check_argument c) (vCons (vC (.str "life")) (vCons (vOrV (vIsN false (vVar 2)) (vCall (f_is_one_of c) (vCons (vVar 2) (vCons (vC (.tup [(.int 0), (.int 1), (.int 2), (.int 3)])) vNil)))) vNil))))
    (vSeq (vSetF (okA c) "what" (vVar 0) (vVar 1))
    (vSetF (okA c) "life" (vVar 0) (vVar 2)))))
def f_Keep_init (c : CS) : VF := vDef 3 (b_Keep_init c)
theorem okv_Keep_init {f : Addr} {fd : FuncData} {dvs : List V} (F : FunD K "__init__" "Keep.__init__" (defArgs s_Keep_init) (defBody s_Keep_init) (defScope s_Keep_init) dvs [] f fd) (B : Bn mg) (D_check_argument : DV P w K mg base "check_argument" 1 2 (f_check_argument c)) (D_is_one_of : DV P w K mg base "is_one_of" 2 2 (f_is_one_of c)) (O_life : FldOk K "life" (okA c)) (O_what : FldOk K "what" (okA c)) (G_LIVES : GV K mg "LIVES" (.tup [(.int 0), (.int 1), (.int 2), (.int 3)])) (G_KEPT_ANSWERS : GV K mg "KEPT_ANSWERS" (.tup [(.str "good"), (.str "all")])) : FnOk P w K mg base (L2.CX P w) 3 f fd ["self", "what", "life"] (SpV K 3 (f_Keep_init c)) :=
  okVD F sc_Keep_init fun cdv A outer s H E hr => (pss_vcons (ps_vexpr (pe_vcall D_check_argument.g (hr.mono (by decide)) (by rfl) D_check_argument.m D_check_argument.kp D_check_argument.b (takes_of rfl rfl rfl rfl) (pa_vcons pe_vstr (pa_vcons (pe_vinF (by rfl) (pe_vvar 1) (pe_vglob (by rfl) G_KEPT_ANSWERS.m G_KEPT_ANSWERS.r G_KEPT_ANSWERS.rp)) pa_vnil)) (vcons_len (vcons_len vnil_len))))
    (pss_vcons (ps_vexpr (pe_vcall D_check_argument.g (hr.mono (by decide)) (by rfl) D_check_argument.m D_check_argument.kp D_check_argument.b (takes_of rfl rfl rfl rfl) (pa_vcons pe_vstr (pa_vcons (pe_vorV (pe_visN (pe_vvar 2)) (pe_vone (pe_vcall D_is_one_of.g (hr.mono (by decide)) (by rfl) D_is_one_of.m D_is_one_of.kp D_is_one_of.b (takes_of rfl rfl rfl rfl) (pa_vcons (pe_vvar 2) (pa_vcons (pe_vglob (by rfl) G_LIVES.m G_LIVES.r G_LIVES.rp) pa_vnil)) (vcons_len (vcons_len vnil_len))))) pa_vnil)) (vcons_len (vcons_len vnil_len))))
    (pss_vcons (ps_vsetF (okA c) O_what (pe_vvar 0) (pe_vvar 1))
    (pss_vone (ps_vsetF (okA c) O_life (pe_vvar 0) (pe_vvar 2))))))
abbrev n_Tries_init : List Str := ["self", "many", "on"]
theorem sc_Tries_init : FnScope n_Tries_init ["self", "many", "on"] (defScope s_Tries_init) := ⟨rfl, rfl, rfl, by decide +kernel, rfl, by decide +kernel, by decide +kernel⟩
def b_Tries_init (c : CS) : VS := (vSeq (vDrop (vCall (f_check_argument c) (vCons (vC (.str "many")) (vCons (vCall (f_is_one_of c) (vCons (vVar 1) (vCons (vC (.tup [(.int 1), (.int 2), (.int 3)])) vNil))) vNil))))
    (vSeq (vDrop (vCall (f_check_argument c) (vCons (vC (.str "on")) (vCons (vBin (gInFlat false) (vVar 2) (vC (.tup [(.str "fault"), (.str "all")]))) vNil))))
    (vSeq (vSetF (okA c) "many" (vVar 0) (vVar 1))
    (vSetF (okA c) "on" (vVar 0) (vVar 2)))))
def f_Tries_init (c : CS) : VF := vDef 3 (b_Tries_init c)
theorem okv_Tries_init {f : Addr} {fd : FuncData} {dvs : List V} (F : FunD K "__init__" "Tries.__init__" (defArgs s_Tries_init) (defBody s_Tries_init) (defScope s_Tries_init) dvs [] f fd) (B : Bn mg) (D_check_argument : DV P w K mg base "check_argument" 1 2 (f_check_argument c)) (D_is_one_of : DV P w K mg base "is_one_of" 2 2 (f_is_one_of c)) (O_on : FldOk K "on" (okA c)) (O_many : FldOk K "many" (okA c)) (G_FAULTS : GV K mg "FAULTS" (.tup [(.str "fault"), (.str "all")])) (G_MOST_ASKED : GV K mg "MOST_ASKED" (.tup [(.int 1), (.int 2), (.int 3)])) : FnOk P w K mg base (L2.CX P w) 3 f fd ["self", "many", "on"] (SpV K 3 (f_Tries_init c)) :=
  okVD F sc_Tries_init fun cdv A outer s H E hr => (pss_vcons (ps_vexpr (pe_vcall D_check_argument.g (hr.mono (by decide)) (by rfl) D_check_argument.m D_check_argument.kp D_check_argument.b (takes_of rfl rfl rfl rfl) (pa_vcons pe_vstr (pa_vcons (pe_vcall D_is_one_of.g (hr.mono (by decide)) (by rfl) D_is_one_of.m D_is_one_of.kp D_is_one_of.b (takes_of rfl rfl rfl rfl) (pa_vcons (pe_vvar 1) (pa_vcons (pe_vglob (by rfl) G_MOST_ASKED.m G_MOST_ASKED.r G_MOST_ASKED.rp) pa_vnil)) (vcons_len (vcons_len vnil_len))) pa_vnil)) (vcons_len (vcons_len vnil_len))))
    (pss_vcons (ps_vexpr (pe_vcall D_check_argument.g (hr.mono (by decide)) (by rfl) D_check_argument.m D_check_argument.kp D_check_argument.b (takes_of rfl rfl rfl rfl) (pa_vcons pe_vstr (pa_vcons (pe_vinF (by rfl) (pe_vvar 2) (pe_vglob (by rfl) G_FAULTS.m G_FAULTS.r G_FAULTS.rp)) pa_vnil)) (vcons_len (vcons_len vnil_len))))
    (pss_vcons (ps_vsetF (okA c) O_many (pe_vvar 0) (pe_vvar 1))
    (pss_vone (ps_vsetF (okA c) O_on (pe_vvar 0) (pe_vvar 2))))))
abbrev n_every : List Str := ["_law_found", "_law_number", "_law_on_what", "_law_word"]
theorem sc_every : FnScope n_every [] (defScope s_law_every) := ⟨rfl, rfl, rfl, by decide +kernel, rfl, by decide +kernel, by decide +kernel⟩
def b_every (c : CS) : VS := (vSeq (vSet 0 (vOwn (vLst (vCons (vTup (vCons (vInsD (vMakeO c.Leave)) (vCons (vVal (vLst (vCons (vC (.str "leave")) vNil))) vNil))) (vCons (vTup (vCons (vInsD (vMakeO c.Count)) (vCons (vVal (vLst (vCons (vC (.str "count")) vNil))) vNil))) (vCons (vTup (vCons (vInsD (vMakeO c.Lend)) (vCons (vVal (vLst (vCons (vC (.str "lend")) vNil))) vNil))) vNil))))))
    (vSeq (vFor (vRange2 (vC (.int 1)) (vC (.int 7))) (vgName 1) (vDrop (vMet gAppend (vVar 0) (vCons (vTup (vCons (vInsD (vMake c.Limit (f_Limit_init c) (vCons (vVar 1) vNil))) (vCons (vVal (vLst (vCons (vC (.str "limit")) (vCons (vB gStrF (vCons (vVar 1) vNil)) vNil)))) vNil))) vNil))))
    (vSeq (vFor (vItems (vTup (vCons (vC (.str "fault")) (vCons (vC (.str "all")) vNil)))) (vgName 2) (vSeq (vDrop (vMet gAppend (vVar 0) (vCons (vTup (vCons (vInsD (vMake c.Soft (f_Soft_init c) (vCons (vVar 2) vNil))) (vCons (vVal (vLst (vCons (vC (.str "soft")) (vCons (vVar 2) vNil)))) vNil))) vNil)))
    (vFor (vRange2 (vC (.int 1)) (vC (.int 4))) (vgName 1) (vDrop (vMet gAppend (vVar 0) (vCons (vTup (vCons (vInsD (vMake c.Tries (f_Tries_init c) (vCons (vVar 1) (vCons (vVar 2) vNil)))) (vCons (vVal (vLst (vCons (vC (.str "tries")) (vCons (vB gStrF (vCons (vVar 1) vNil)) (vCons (vVar 2) vNil))))) vNil))) vNil))))))
    (vSeq (vFor (vItems (vTup (vCons (vC (.str "good")) (vCons (vC (.str "all")) vNil)))) (vgName 3) (vSeq (vDrop (vMet gAppend (vVar 0) (vCons (vTup (vCons (vInsD (vMake c.Keep (f_Keep_init c) (vCons (vVar 3) (vCons (vC .non) vNil)))) (vCons (vVal (vLst (vCons (vC (.str "keep")) (vCons (vVar 3) (vCons (vC (.str "ever")) vNil))))) vNil))) vNil)))
    (vFor (vRange (vC (.int 4))) (vgName 1) (vDrop (vMet gAppend (vVar 0) (vCons (vTup (vCons (vInsD (vMake c.Keep (f_Keep_init c) (vCons (vVar 3) (vCons (vVar 1) vNil)))) (vCons (vVal (vLst (vCons (vC (.str "keep")) (vCons (vVar 3) (vCons (vB gStrF (vCons (vVar 1) vNil)) vNil))))) vNil))) vNil))))))
    (vFrz 0 (vRet (vVar 0)))))))
def f_every (c : CS) : VF := vDef 4 (b_every c)
theorem okv_every {f : Addr} {fd : FuncData} (F : Fun K "_law_every" "_law_every" s_law_every f fd) (B : Bn mg) (MI_Keep : MI P w K mg base 3 3 "Keep" c.Keep (f_Keep_init c)) (MI_Tries : MI P w K mg base 3 3 "Tries" c.Tries (f_Tries_init c)) (MI_Soft : MI P w K mg base 2 2 "Soft" c.Soft (f_Soft_init c)) (MI_Limit : MI P w K mg base 3 2 "Limit" c.Limit (f_Limit_init c)) (MO_Lend : Own.MkO K c.Lend) (M_Lend : mg "Lend" = some (.ref c.Lend)) (MO_Count : Own.MkO K c.Count) (M_Count : mg "Count" = some (.ref c.Count)) (MO_Leave : Own.MkO K c.Leave) (M_Leave : mg "Leave" = some (.ref c.Leave)) : FnOk P w K mg base (L2.CX P w) 5 f fd [] (SpV K 0 (f_every c)) :=
  okV F sc_every fun cdv A outer s H E hr => (pss_vcons (ps_vset (i := 0) sc_every.nd rfl (Or.inl rfl) (pe_vown (pe_vlst (pa_vcons (pe_vtup (pa_vcons (pe_vinsD (pe_vmakeO MO_Leave (by rfl) M_Leave)) (pa_vcons (pe_vval (pe_vlst (pa_vcons pe_vstr pa_vnil))) pa_vnil))) (pa_vcons (pe_vtup (pa_vcons (pe_vinsD (pe_vmakeO MO_Count (by rfl) M_Count)) (pa_vcons (pe_vval (pe_vlst (pa_vcons pe_vstr pa_vnil))) pa_vnil))) (pa_vcons (pe_vtup (pa_vcons (pe_vinsD (pe_vmakeO MO_Lend (by rfl) M_Lend)) (pa_vcons (pe_vval (pe_vlst (pa_vcons pe_vstr pa_vnil))) pa_vnil))) pa_vnil))))))
    (pss_vcons (ps_vfor (passes_of rfl) rfl (pi_vrange2 (by rfl) B.range_ pe_vint pe_vint) (pg_vname (i := 1) sc_every.nd rfl (Or.inl rfl)) (pss_vone (ps_vexpr (pe_vappend (pe_vvar 0) (pa_vcons (pe_vtup (pa_vcons (pe_vinsD (pe_vmake MI_Limit.mks MI_Limit.g (hr.mono (by decide)) (by rfl) MI_Limit.m MI_Limit.b (takes_of rfl rfl rfl rfl) (pa_vcons (pe_vvar 1) pa_vnil) (by intro s ss m e; rw [(vcons_len vnil_len) s ss m e]))) (pa_vcons (pe_vval (pe_vlst (pa_vcons pe_vstr (pa_vcons (pe_vcallTy cv_strF call_strF (by rfl) B.str_ (by decide +kernel) (pa_vcons (pe_vvar 1) pa_vnil)) pa_vnil)))) pa_vnil))) pa_vnil)))))
    (pss_vcons (ps_vfor (passes_of rfl) rfl (pi_vseq (pe_vtup (pa_vcons pe_vstr (pa_vcons pe_vstr pa_vnil)))) (pg_vname (i := 2) sc_every.nd rfl (Or.inl rfl)) (pss_vcons (ps_vexpr (pe_vappend (pe_vvar 0) (pa_vcons (pe_vtup (pa_vcons (pe_vinsD (pe_vmake MI_Soft.mks MI_Soft.g (hr.mono (by decide)) (by rfl) MI_Soft.m MI_Soft.b (takes_of rfl rfl rfl rfl) (pa_vcons (pe_vvar 2) pa_vnil) (by intro s ss m e; rw [(vcons_len vnil_len) s ss m e]))) (pa_vcons (pe_vval (pe_vlst (pa_vcons pe_vstr (pa_vcons (pe_vvar 2) pa_vnil)))) pa_vnil))) pa_vnil)))
    (pss_vone (ps_vfor (passes_of rfl) rfl (pi_vrange2 (by rfl) B.range_ pe_vint pe_vint) (pg_vname (i := 1) sc_every.nd rfl (Or.inl rfl)) (pss_vone (ps_vexpr (pe_vappend (pe_vvar 0) (pa_vcons (pe_vtup (pa_vcons (pe_vinsD (pe_vmake MI_Tries.mks MI_Tries.g (hr.mono (by decide)) (by rfl) MI_Tries.m MI_Tries.b (takes_of rfl rfl rfl rfl) (pa_vcons (pe_vvar 1) (pa_vcons (pe_vvar 2) pa_vnil)) (by intro s ss m e; rw [(vcons_len (vcons_len vnil_len)) s ss m e]))) (pa_vcons (pe_vval (pe_vlst (pa_vcons pe_vstr (pa_vcons (pe_vcallTy cv_strF call_strF (by rfl) B.str_ (by decide +kernel) (pa_vcons (pe_vvar 1) pa_vnil)) (pa_vcons (pe_vvar 2) pa_vnil))))) pa_vnil))) pa_vnil))))))))
    (pss_vcons (ps_vfor (passes_of rfl) rfl (pi_vseq (pe_vtup (pa_vcons pe_vstr (pa_vcons pe_vstr pa_vnil)))) (pg_vname (i := 3) sc_every.nd rfl (Or.inl rfl)) (pss_vcons (ps_vexpr (pe_vappend (pe_vvar 0) (pa_vcons (pe_vtup (pa_vcons (pe_vinsD (pe_vmake MI_Keep.mks MI_Keep.g (hr.mono (by decide)) (by rfl) MI_Keep.m MI_Keep.b (takes_of rfl rfl rfl rfl) (pa_vcons (pe_vvar 3) (pa_vcons pe_vnon pa_vnil)) (by intro s ss m e; rw [(vcons_len (vcons_len vnil_len)) s ss m e]))) (pa_vcons (pe_vval (pe_vlst (pa_vcons pe_vstr (pa_vcons (pe_vvar 3) (pa_vcons pe_vstr pa_vnil))))) pa_vnil))) pa_vnil)))
    (pss_vone (ps_vfor (passes_of rfl) rfl (pi_vrange (by rfl) B.range_ pe_vint) (pg_vname (i := 1) sc_every.nd rfl (Or.inl rfl)) (pss_vone (ps_vexpr (pe_vappend (pe_vvar 0) (pa_vcons (pe_vtup (pa_vcons (pe_vinsD (pe_vmake MI_Keep.mks MI_Keep.g (hr.mono (by decide)) (by rfl) MI_Keep.m MI_Keep.b (takes_of rfl rfl rfl rfl) (pa_vcons (pe_vvar 3) (pa_vcons (pe_vvar 1) pa_vnil)) (by intro s ss m e; rw [(vcons_len (vcons_len vnil_len)) s ss m e]))) (pa_vcons (pe_vval (pe_vlst (pa_vcons pe_vstr (pa_vcons (pe_vvar 3) (pa_vcons (pe_vcallTy cv_strF call_strF (by rfl) B.str_ (by decide +kernel) (pa_vcons (pe_vvar 1) pa_vnil)) pa_vnil))))) pa_vnil))) pa_vnil))))))))
    (pss_vone (ps_frz 0 (ps_vret (pe_vvar 0))))))))
abbrev n_source : List Str := ["_law_script", "_law_base", "_law_cells", "_law_mixed_here", "_law_cell"]
theorem sc_source : FnScope n_source ["_law_script", "_law_base"] (defScope s_law_source) := ⟨rfl, rfl, rfl, by decide +kernel, rfl, by decide +kernel, by decide +kernel⟩
def b_source (c : CS) : VS := (vSeq (vSet 2 (vVal (vComp [4] (vItems (vVal (vSliceL (vVar 0) (vPart (vVar 1)) (vPart (vC (.int 62)))))) (vgName 4) vYes (vB gAbs (vCons (vB gInt1 (vCons (vVar 4) vNil)) vNil)))))
    (vSeq (vSet 3 (vBin gAdd (vC (.int 73939133)) (vBin dMul (vC (.int 67)) (vVar 1))))
    (vSeq (vFor (vItems (vVar 2)) (vgName 4) (vSet 3 (vBin dMod (vB gInt1 (vCons (vBin gAdd (vBin gAdd (vBin dMul (vVar 3) (vC (.int 30671))) (vBin dMod (vB gInt1 (vCons (vVar 4) vNil)) (vC (.int 2147483423)))) (vC (.int 31))) vNil)) (vC (.int 2147483647)))))
    (vRet (vDisp [("great", (vOwn (vRev (vVal (vComp [4] (vItems (vVar 2)) (vgName 4) (vTest (vBin dGe (vVar 4) (vBin dPow (vC (.int 10)) (vC (.int 18))))) (vVar 4)))))), ("mixed", (vVar 3))])))))
def f_source (c : CS) : VF := vDef 5 (b_source c)
theorem okv_source {f : Addr} {fd : FuncData} (F : Fun K "_law_source" "_law_source" s_law_source f fd) (B : Bn mg) : FnOk P w K mg base (L2.CX P w) 1 f fd ["_law_script", "_law_base"] (SpV K 2 (f_source c)) :=
  okV F sc_source fun cdv A outer s H E hr => (pss_vcons (ps_vsetLc (own := [("_law_cell", 4)]) (by decide) rfl sc_source.nd (i := 2) rfl rfl (sw_true rfl rfl rfl (by decide +kernel)) (pi_vseq (pe_vval (pe_vsliceL (pe_vvar 0) (po_vsome (pe_vvar 1)) (po_vsome pe_vint)))) (blkOk_by (N := n_source) (sc := defScope s_law_source) (by decide +kernel)) (fun _ _ _ _ _ => (pg_vname (i := 4) sc_source.nd rfl (Or.inl rfl))) (fun _ _ _ _ _ => pts_vnil) (fun _ _ _ _ _ => (pe_vcallB cv_abs call_abs (by rfl) B.abs_ (by decide +kernel) (pa_vcons (pe_vcallTy cv_int call_int1 (by rfl) B.int_ (by decide +kernel) (pa_vcons (pe_vvar 4) pa_vnil)) pa_vnil))))
    (pss_vcons (ps_vset (i := 3) sc_source.nd rfl (Or.inl rfl) (pe_vadd pe_vint (pe_vmul pe_vint (pe_vvar 1))))
    (pss_vcons (ps_vfor (passes_of rfl) rfl (pi_vseq (pe_vvar 2)) (pg_vname (i := 4) sc_source.nd rfl (Or.inl rfl)) (pss_vone (ps_vset (i := 3) sc_source.nd rfl (Or.inl rfl) (pe_vmod (pe_vcallTy cv_int call_int1 (by rfl) B.int_ (by decide +kernel) (pa_vcons (pe_vadd (pe_vadd (pe_vmul (pe_vvar 3) pe_vint) (pe_vmod (pe_vcallTy cv_int call_int1 (by rfl) B.int_ (by decide +kernel) (pa_vcons (pe_vvar 4) pa_vnil)) pe_vint)) pe_vint) pa_vnil)) pe_vint))))
    (pss_vone (ps_vret (pe_vdisp (l := [("great", (vOwn (vRev (vVal (vComp [4] (vItems (vVar 2)) (vgName 4) (vTest (vBin dGe (vVar 4) (vBin dPow (vC (.int 10)) (vC (.int 18))))) (vVar 4)))))), ("mixed", (vVar 3))]) (pps_cons pe_str (pe_vown (pe_vrev (pe_vval (pe_vcomp (own := [("_law_cell", 4)]) (by decide) rfl sc_source.nd (pi_vseq (pe_vvar 2)) (blkOk_by (N := n_source) (sc := defScope s_law_source) (by decide +kernel)) (fun _ _ _ _ _ => (pg_vname (i := 4) sc_source.nd rfl (Or.inl rfl))) (fun _ _ _ _ _ => (pts_one (pt_vge (pe_vvar 4) (pe_vpow pe_vint pe_vint)))) (fun _ _ _ _ _ => (pe_vvar 4)))))) (pps_cons pe_str (pe_vvar 3) pps_nil)) (by rfl) (by rfl) (fun z => by cases z) (by decide)))))))
abbrev n_Keep_words : List Str := ["self", "life"]
theorem sc_Keep_words : FnScope n_Keep_words ["self"] (defScope s_Keep_words) := ⟨rfl, rfl, rfl, by decide +kernel, rfl, by decide +kernel, by decide +kernel⟩
def b_Keep_words (c : CS) : VS := (vSeq (vSet 1 (vIfE (vTest (vIsN false (vFld (okA c) "life" (vVar 0)))) (vC (.str "ever")) (vB gStrF (vCons (vFld (okA c) "life" (vVar 0)) vNil))))
    (vRet (vTup (vCons (vC (.str "keep")) (vCons (vFld (okA c) "what" (vVar 0)) (vCons (vVar 1) vNil))))))
def f_Keep_words (c : CS) : VF := vDef 2 (b_Keep_words c)
theorem okv_Keep_words {f : Addr} {fd : FuncData} (F : Fun K "words" "Keep.words" s_Keep_words f fd) (B : Bn mg) (O_what : FldOk K "what" (okA c)) (O_life : FldOk K "life" (okA c)) : FnOk P w K mg base (L2.CX P w) 1 f fd ["self"] (SpV K 1 (f_Keep_words c)) :=
  okV F sc_Keep_words fun cdv A outer s H E hr => (pss_vcons (ps_vset (i := 1) sc_Keep_words.nd rfl (Or.inl rfl) (pe_vifE (pt_visN (pe_vfld (okA c) O_life (pe_vvar 0))) pe_vstr (pe_vcallTy cv_strF call_strF (by rfl) B.str_ (by decide +kernel) (pa_vcons (pe_vfld (okA c) O_life (pe_vvar 0)) pa_vnil))))
    (pss_vone (ps_vret (pe_vtup (pa_vcons pe_vstr (pa_vcons (pe_vfld (okA c) O_what (pe_vvar 0)) (pa_vcons (pe_vvar 1) pa_vnil)))))))
abbrev n_Tries_words : List Str := ["self"]
theorem sc_Tries_words : FnScope n_Tries_words ["self"] (defScope s_Tries_words) := ⟨rfl, rfl, rfl, by decide +kernel, rfl, by decide +kernel, by decide +kernel⟩
def b_Tries_words (c : CS) : VS := (vRet (vTup (vCons (vC (.str "tries")) (vCons (vB gStrF (vCons (vFld (okA c) "many" (vVar 0)) vNil)) (vCons (vFld (okA c) "on" (vVar 0)) vNil)))))
def f_Tries_words (c : CS) : VF := vDef 1 (b_Tries_words c)
theorem okv_Tries_words {f : Addr} {fd : FuncData} (F : Fun K "words" "Tries.words" s_Tries_words f fd) (B : Bn mg) (O_on : FldOk K "on" (okA c)) (O_many : FldOk K "many" (okA c)) : FnOk P w K mg base (L2.CX P w) 1 f fd ["self"] (SpV K 1 (f_Tries_words c)) :=
  okV F sc_Tries_words fun cdv A outer s H E hr => (pss_vone (ps_vret (pe_vtup (pa_vcons pe_vstr (pa_vcons (pe_vcallTy cv_strF call_strF (by rfl) B.str_ (by decide +kernel) (pa_vcons (pe_vfld (okA c) O_many (pe_vvar 0)) pa_vnil)) (pa_vcons (pe_vfld (okA c) O_on (pe_vvar 0)) pa_vnil))))))
abbrev n_Limit_words : List Str := ["self"]
theorem sc_Limit_words : FnScope n_Limit_words ["self"] (defScope s_Limit_words) := ⟨rfl, rfl, rfl, by decide +kernel, rfl, by decide +kernel, by decide +kernel⟩
def b_Limit_words (c : CS) : VS := (vRet (vTup (vCons (vC (.str "limit")) (vCons (vB gStrF (vCons (vFld (okA c) "many" (vVar 0)) vNil)) vNil))))
def f_Limit_words (c : CS) : VF := vDef 1 (b_Limit_words c)
theorem okv_Limit_words {f : Addr} {fd : FuncData} (F : Fun K "words" "Limit.words" s_Limit_words f fd) (B : Bn mg) (O_many : FldOk K "many" (okA c)) : FnOk P w K mg base (L2.CX P w) 1 f fd ["self"] (SpV K 1 (f_Limit_words c)) :=
  okV F sc_Limit_words fun cdv A outer s H E hr => (pss_vone (ps_vret (pe_vtup (pa_vcons pe_vstr (pa_vcons (pe_vcallTy cv_strF call_strF (by rfl) B.str_ (by decide +kernel) (pa_vcons (pe_vfld (okA c) O_many (pe_vvar 0)) pa_vnil)) pa_vnil)))))
abbrev n_Leave_words : List Str := ["self"]
theorem sc_Leave_words : FnScope n_Leave_words ["self"] (defScope s_Leave_words) := ⟨rfl, rfl, rfl, by decide +kernel, rfl, by decide +kernel, by decide +kernel⟩
def b_Leave_words (c : CS) : VS := (vRet (vTup (vCons (vC (.str "leave")) vNil)))
def f_Leave_words (c : CS) : VF := vDef 1 (b_Leave_words c)
theorem okv_Leave_words {f : Addr} {fd : FuncData} (F : Fun K "words" "Leave.words" s_Leave_words f fd) (B : Bn mg) : FnOk P w K mg base (L2.CX P w) 1 f fd ["self"] (SpV K 1 (f_Leave_words c)) :=
  okV F sc_Leave_words fun cdv A outer s H E hr => (pss_vone (ps_vret (pe_vtup (pa_vcons pe_vstr pa_vnil))))
abbrev n_Soft_words : List Str := ["self"]
theorem sc_Soft_words : FnScope n_Soft_words ["self"] (defScope s_Soft_words) := ⟨rfl, rfl, rfl, by decide +kernel, rfl, by decide +kernel, by decide +kernel⟩
def b_Soft_words (c : CS) : VS := (vRet (vTup (vCons (vC (.str "soft")) (vCons (vFld (okA c) "on" (vVar 0)) vNil))))
def f_Soft_words (c : CS) : VF := vDef 1 (b_Soft_words c)
theorem okv_Soft_words {f : Addr} {fd : FuncData} (F : Fun K "words" "Soft.words" s_Soft_words f fd) (B : Bn mg) (O_on : FldOk K "on" (okA c)) : FnOk P w K mg base (L2.CX P w) 1 f fd ["self"] (SpV K 1 (f_Soft_words c)) :=
  okV F sc_Soft_words fun cdv A outer s H E hr => (pss_vone (ps_vret (pe_vtup (pa_vcons pe_vstr (pa_vcons (pe_vfld (okA c) O_on (pe_vvar 0)) pa_vnil)))))
abbrev n_Count_words : List Str := ["self"]
theorem sc_Count_words : FnScope n_Count_words ["self"] (defScope s_Count_words) := ⟨rfl, rfl, rfl, by decide +kernel, rfl, by decide +kernel, by decide +kernel⟩
def b_Count_words (c : CS) : VS := (vRet (vTup (vCons (vC (.str "count")) vNil)))
def f_Count_words (c : CS) : VF := vDef 1 (b_Count_words c)
theorem okv_Count_words {f : Addr} {fd : FuncData} (F : Fun K "words" "Count.words" s_Count_words f fd) (B : Bn mg) : FnOk P w K mg base (L2.CX P w) 1 f fd ["self"] (SpV K 1 (f_Count_words c)) :=
  okV F sc_Count_words fun cdv A outer s H E hr => (pss_vone (ps_vret (pe_vtup (pa_vcons pe_vstr pa_vnil))))
abbrev n_Lend_words : List Str := ["self"]
theorem sc_Lend_words : FnScope n_Lend_words ["self"] (defScope s_Lend_words) := ⟨rfl, rfl, rfl, by decide +kernel, rfl, by decide +kernel, by decide +kernel⟩
def b_Lend_words (c : CS) : VS := (vRet (vTup (vCons (vC (.str "lend")) vNil)))
def f_Lend_words (c : CS) : VF := vDef 1 (b_Lend_words c)
theorem okv_Lend_words {f : Addr} {fd : FuncData} (F : Fun K "words" "Lend.words" s_Lend_words f fd) (B : Bn mg) : FnOk P w K mg base (L2.CX P w) 1 f fd ["self"] (SpV K 1 (f_Lend_words c)) :=
  okV F sc_Lend_words fun cdv A outer s H E hr => (pss_vone (ps_vret (pe_vtup (pa_vcons pe_vstr pa_vnil))))
def tb_words (c : CS) : Addr → Option VF := fun C => if C = c.Keep then some (f_Keep_words c) else if C = c.Tries then some (f_Tries_words c) else if C = c.Limit then some (f_Limit_words c) else if C = c.Leave then some (f_Leave_words c) else if C = c.Soft then some (f_Soft_words c) else if C = c.Count then some (f_Count_words c) else if C = c.Lend then some (f_Lend_words c) else none
abbrev n_Row_str : List Str := ["self"]
theorem sc_Row_str : FnScope n_Row_str ["self"] (defScope s_Row_str) := ⟨rfl, rfl, rfl, by decide +kernel, rfl, by decide +kernel, by decide +kernel⟩
def b_Row_str (c : CS) : VS := (vRet (vM1 gJoin (vC (.str " ")) (vMethD (tb_words c) "words" (vVar 0) vNil)))
def f_Row_str (c : CS) : VF := vDef 1 (b_Row_str c)
theorem okv_Row_str {f : Addr} {fd : FuncData} (F : Fun K "__str__" "Row.__str__" s_Row_str f fd) (B : Bn mg) (T_words : ∀ C vf, tb_words c C = some vf → MVd P w K mg base 1 "words" 1 C vf) : FnOk P w K mg base (L2.CX P w) 2 f fd ["self"] (SpV K 1 (f_Row_str c)) :=
  okV F sc_Row_str fun cdv A outer s H E hr => (pss_vone (ps_vret (pe_vjoin pe_vstr (pe_vmethD0 (takes_of rfl rfl rfl rfl) (fun C vf e => (T_words C vf e).mv (hr.mono (by decide))) (pe_vvar 0)))))
abbrev n_Row_eq : List Str := ["self", "other"]
theorem sc_Row_eq : FnScope n_Row_eq ["self", "other"] (defScope s_Row_eq) := ⟨rfl, rfl, rfl, by decide +kernel, rfl, by decide +kernel, by decide +kernel⟩
def b_Row_eq (c : CS) : VS := (vRet (vAndV (vIsi (tyTab (fun _ => false) (ct_Row c)) (vVar 1)) (vBin dEq (vB (gStrO (ok_Row c) (f_Row_str c)) (vCons (vVar 0) vNil)) (vB (gStrO (ok_Row c) (f_Row_str c)) (vCons (vVar 1) vNil)))))
def f_Row_eq (c : CS) : VF := vDef 2 (b_Row_eq c)
theorem okv_Row_eq {f : Addr} {fd : FuncData} (F : Fun K "__eq__" "Row.__eq__" s_Row_eq f fd) (B : Bn mg) (S_Row : DM P w K mg base 2 1 (f_Row_str c)) (W_Row : ∀ C, ok_Row c C = true → ∃ ge, Own.OwnC K C S_Row.a ge) (I_Row : IsT K [.ref c.Row] (tyTab (fun _ => false) (ct_Row c))) (M_Row : mg "Row" = some (.ref c.Row)) : FnOk P w K mg base (L2.CX P w) 5 f fd ["self", "other"] (SpV K 2 (f_Row_eq c)) :=
  okV F sc_Row_eq fun cdv A outer s H E hr => (pss_vone (ps_vret (pe_vandV (pe_visi (tyTab (fun _ => false) (ct_Row c)) I_Row (by rfl) B.isinstance_ (pe_vvar 1) (pe_glob (v := .ref c.Row) (by rfl) M_Row rfl) (.own _)) (pe_vone (pe_veq hr.units (pe_vstrO S_Row.g S_Row.b W_Row (hr.mono (by decide)) (by rfl) B.str_ (by decide +kernel) (pa_vcons (pe_vvar 0) pa_vnil)) (pe_vstrO S_Row.g S_Row.b W_Row (hr.mono (by decide)) (by rfl) B.str_ (by decide +kernel) (pa_vcons (pe_vvar 1) pa_vnil)))))))
abbrev n_parts_right : List Str := ["_law_number", "_law_on_what", "_law_word"]
theorem sc_parts_right : FnScope n_parts_right [] (defScope s_law_parts_right) := ⟨rfl, rfl, rfl, by decide +kernel, rfl, by decide +kernel, by decide +kernel⟩
def b_parts_right (c : CS) : VS := (vSeq (vFor (vRange2 (vC (.int 1)) (vC (.int 4))) (vgName 0) (vSeq (vFor (vItems (vTup (vCons (vC (.str "fault")) (vCons (vC (.str "all")) vNil)))) (vgName 1) (vIf (vTest (vBin dNe (vTup (vCons (vFld (okA c) "many" (vInsD (vMake c.Tries (f_Tries_init c) (vCons (vVar 0) (vCons (vVar 1) vNil))))) (vCons (vFld (okA c) "on" (vInsD (vMake c.Tries (f_Tries_init c) (vCons (vVar 0) (vCons (vVar 1) vNil))))) vNil))) (vTup (vCons (vVar 0) (vCons (vVar 1) vNil))))) (vRet (vC (.bl false))) vNext))
    (vIf (vOr (vTest (vBin dNe (vFld (okA c) "many" (vInsD (vMake c.Limit (f_Limit_init c) (vCons (vBin gAdd (vC (.int 3)) (vVar 0)) vNil)))) (vBin gAdd (vC (.int 3)) (vVar 0)))) (vTest (vBin dNe (vFld (okA c) "many" (vInsD (vMake c.Limit (f_Limit_init c) (vCons (vVar 0) vNil)))) (vVar 0)))) (vRet (vC (.bl false))) vNext)))
    (vSeq (vFor (vItems (vTup (vCons (vC .non) (vCons (vC (.int 0)) (vCons (vC (.int 1)) (vCons (vC (.int 2)) (vCons (vC (.int 3)) vNil))))))) (vgName 0) (vFor (vItems (vTup (vCons (vC (.str "good")) (vCons (vC (.str "all")) vNil)))) (vgName 2) (vIf (vTest (vBin dNe (vB gRepr (vCons (vTup (vCons (vFld (okA c) "what" (vInsD (vMake c.Keep (f_Keep_init c) (vCons (vVar 2) (vCons (vVar 0) vNil))))) (vCons (vFld (okA c) "life" (vInsD (vMake c.Keep (f_Keep_init c) (vCons (vVar 2) (vCons (vVar 0) vNil))))) vNil))) vNil)) (vB gRepr (vCons (vTup (vCons (vVar 2) (vCons (vVar 0) vNil))) vNil)))) (vRet (vC (.bl false))) vNext)))
    (vRet (vBin dEq (vTup (vCons (vFld (okA c) "on" (vInsD (vMake c.Soft (f_Soft_init c) (vCons (vC (.str "all")) vNil)))) (vCons (vFld (okA c) "on" (vInsD (vMake c.Soft (f_Soft_init c) (vCons (vC (.str "fault")) vNil)))) vNil))) (vTup (vCons (vC (.str "all")) (vCons (vC (.str "fault")) vNil)))))))
def f_parts_right (c : CS) : VF := vDef 3 (b_parts_right c)
theorem okv_parts_right {f : Addr} {fd : FuncData} (F : Fun K "_law_parts_right" "_law_parts_right" s_law_parts_right f fd) (B : Bn mg) (O_on : FldOk K "on" (okA c)) (MI_Soft : MI P w K mg base 2 2 "Soft" c.Soft (f_Soft_init c)) (O_life : FldOk K "life" (okA c)) (MI_Keep : MI P w K mg base 3 3 "Keep" c.Keep (f_Keep_init c)) (O_what : FldOk K "what" (okA c)) (BR_repr : mg "repr" = none) (O_many : FldOk K "many" (okA c)) (MI_Limit : MI P w K mg base 3 2 "Limit" c.Limit (f_Limit_init c)) (MI_Tries : MI P w K mg base 3 3 "Tries" c.Tries (f_Tries_init c)) : FnG P w K mg base 5 f fd [] (SpV K 0 (f_parts_right c)) :=
  okVG F sc_parts_right fun cdv A outer s H E hr hgd => (pss_vcons (ps_vfor (passes_of rfl) rfl (pi_vrange2 (by rfl) B.range_ pe_vint pe_vint) (pg_vname (i := 0) sc_parts_right.nd rfl (Or.inl rfl)) (pss_vcons (ps_vfor (passes_of rfl) rfl (pi_vseq (pe_vtup (pa_vcons pe_vstr (pa_vcons pe_vstr pa_vnil)))) (pg_vname (i := 1) sc_parts_right.nd rfl (Or.inl rfl)) (pss_vone (ps_vif (pt_vne hr.units (pe_vtup (pa_vcons (pe_vfld (okA c) O_many (pe_vinsD (pe_vmake MI_Tries.mks MI_Tries.g (hr.mono (by decide)) (by rfl) MI_Tries.m MI_Tries.b (takes_of rfl rfl rfl rfl) (pa_vcons (pe_vvar 0) (pa_vcons (pe_vvar 1) pa_vnil)) (by intro s ss m e; rw [(vcons_len (vcons_len vnil_len)) s ss m e])))) (pa_vcons (pe_vfld (okA c) O_on (pe_vinsD (pe_vmake MI_Tries.mks MI_Tries.g (hr.mono (by decide)) (by rfl) MI_Tries.m MI_Tries.b (takes_of rfl rfl rfl rfl) (pa_vcons (pe_vvar 0) (pa_vcons (pe_vvar 1) pa_vnil)) (by intro s ss m e; rw [(vcons_len (vcons_len vnil_len)) s ss m e])))) pa_vnil))) (pe_vtup (pa_vcons (pe_vvar 0) (pa_vcons (pe_vvar 1) pa_vnil)))) (pss_vone (ps_vret pe_vbl)) pss_vnil)))
    (pss_vone (ps_vif (PW.pt (pw_vor (pt_vne hr.units (pe_vfld (okA c) O_many (pe_vinsD (pe_vmake MI_Limit.mks MI_Limit.g (hr.mono (by decide)) (by rfl) MI_Limit.m MI_Limit.b (takes_of rfl rfl rfl rfl) (pa_vcons (pe_vadd pe_vint (pe_vvar 0)) pa_vnil) (by intro s ss m e; rw [(vcons_len vnil_len) s ss m e])))) (pe_vadd pe_vint (pe_vvar 0))) (pw_vor1 (pt_vne hr.units (pe_vfld (okA c) O_many (pe_vinsD (pe_vmake MI_Limit.mks MI_Limit.g (hr.mono (by decide)) (by rfl) MI_Limit.m MI_Limit.b (takes_of rfl rfl rfl rfl) (pa_vcons (pe_vvar 0) pa_vnil) (by intro s ss m e; rw [(vcons_len vnil_len) s ss m e])))) (pe_vvar 0))))) (pss_vone (ps_vret pe_vbl)) pss_vnil))))
    (pss_vcons (ps_vfor (passes_of rfl) rfl (pi_vseq (pe_vtup (pa_vcons pe_vnon (pa_vcons pe_vint (pa_vcons pe_vint (pa_vcons pe_vint (pa_vcons pe_vint pa_vnil))))))) (pg_vname (i := 0) sc_parts_right.nd rfl (Or.inl rfl)) (pss_vone (ps_vfor (passes_of rfl) rfl (pi_vseq (pe_vtup (pa_vcons pe_vstr (pa_vcons pe_vstr pa_vnil)))) (pg_vname (i := 2) sc_parts_right.nd rfl (Or.inl rfl)) (pss_vone (ps_vif (pt_vne hr.units (pe_vrepr hgd (u66 hr) (by rfl) BR_repr (pa_vcons (pe_vtup (pa_vcons (pe_vfld (okA c) O_what (pe_vinsD (pe_vmake MI_Keep.mks MI_Keep.g (hr.mono (by decide)) (by rfl) MI_Keep.m MI_Keep.b (takes_of rfl rfl rfl rfl) (pa_vcons (pe_vvar 2) (pa_vcons (pe_vvar 0) pa_vnil)) (by intro s ss m e; rw [(vcons_len (vcons_len vnil_len)) s ss m e])))) (pa_vcons (pe_vfld (okA c) O_life (pe_vinsD (pe_vmake MI_Keep.mks MI_Keep.g (hr.mono (by decide)) (by rfl) MI_Keep.m MI_Keep.b (takes_of rfl rfl rfl rfl) (pa_vcons (pe_vvar 2) (pa_vcons (pe_vvar 0) pa_vnil)) (by intro s ss m e; rw [(vcons_len (vcons_len vnil_len)) s ss m e])))) pa_vnil))) pa_vnil)) (pe_vrepr hgd (u66 hr) (by rfl) BR_repr (pa_vcons (pe_vtup (pa_vcons (pe_vvar 2) (pa_vcons (pe_vvar 0) pa_vnil))) pa_vnil))) (pss_vone (ps_vret pe_vbl)) pss_vnil)))))
    (pss_vone (ps_vret (pe_veq hr.units (pe_vtup (pa_vcons (pe_vfld (okA c) O_on (pe_vinsD (pe_vmake MI_Soft.mks MI_Soft.g (hr.mono (by decide)) (by rfl) MI_Soft.m MI_Soft.b (takes_of rfl rfl rfl rfl) (pa_vcons pe_vstr pa_vnil) (by intro s ss m e; rw [(vcons_len vnil_len) s ss m e])))) (pa_vcons (pe_vfld (okA c) O_on (pe_vinsD (pe_vmake MI_Soft.mks MI_Soft.g (hr.mono (by decide)) (by rfl) MI_Soft.m MI_Soft.b (takes_of rfl rfl rfl rfl) (pa_vcons pe_vstr pa_vnil) (by intro s ss m e; rw [(vcons_len vnil_len) s ss m e])))) pa_vnil))) (pe_vtup (pa_vcons pe_vstr (pa_vcons pe_vstr pa_vnil))))))))
abbrev n_draw : List Str := ["_law_deal", "_law_wide", "_law_great", "_law_cell"]
theorem sc_draw : FnScope n_draw ["_law_deal", "_law_wide"] (defScope s_law_draw) := ⟨rfl, rfl, rfl, by decide +kernel, rfl, by decide +kernel, by decide +kernel⟩
def b_draw (c : CS) : VS := (vSeq (vSet 2 (vBin gRd (vVar 0) (vC (.str "great"))))
    (vSeq (vWh (vAnd (vTest (vBin dNe (vVar 2) (vVal (vLst vNil)))) (vTest (vBin dEq (vBin gIx (vVar 2) (vC (.int (-1)))) (vC (.int 0))))) (vDrop (vMet0 gPop (vVar 2))) 1000)
    (vSeq (vIf (vTest (vBin dNe (vVar 2) (vVal (vLst vNil)))) (vSeq (vSet 3 (vMet0 gPop (vVar 2)))
    (vSeq (vDrop (vMet gAppend (vVar 2) (vCons (vBin dDiv (vVar 3) (vVar 1)) vNil)))
    (vRet (vBin dMod (vB gInt1 (vCons (vVar 3) vNil)) (vVar 1))))) vNext)
    (vSeq (vPut (vVar 0) (vC (.str "mixed")) (vBin dMod (vB gInt1 (vCons (vBin gAdd (vBin dMul (vBin gRd (vVar 0) (vC (.str "mixed"))) (vC (.int 30671))) (vC (.int 59))) vNil)) (vC (.int 2147483647))))
    (vRet (vBin dMod (vB gInt1 (vCons (vBin dDiv (vBin gRd (vVar 0) (vC (.str "mixed"))) (vC (.int 64))) vNil)) (vVar 1)))))))
def f_draw (c : CS) : VF := vDef 4 (b_draw c)
theorem okv_draw {f : Addr} {fd : FuncData} (F : Fun K "_law_draw" "_law_draw" s_law_draw f fd) (B : Bn mg) : FnOk P w K mg base (L2.CX P w) 1 f fd ["_law_deal", "_law_wide"] (SpV K 2 (f_draw c)) :=
  okV F sc_draw fun cdv A outer s H E hr => (pss_vcons (ps_vset (i := 2) sc_draw.nd rfl (Or.inl rfl) (pe_vrd (hu1 hr.units) (pe_vvar 0) pe_vstr (fun _ _ => rfl)))
    (pss_vcons (ps_vwhile 1000 (passes_of rfl) (PW.pt (pw_vand (pt_vne hr.units (pe_vvar 2) (pe_vval (pe_vlst pa_vnil))) (pw_vand1 (pt_veq hr.units (pe_vix (fun _ _ => rfl) (pe_vvar 2) pe_vneg) pe_vint)))) (pss_vone (ps_vexpr (pe_vpop (pe_vvar 2)))))
    (pss_vcons (ps_vif (pt_vne hr.units (pe_vvar 2) (pe_vval (pe_vlst pa_vnil))) (pss_vcons (ps_vset (i := 3) sc_draw.nd rfl (Or.inl rfl) (pe_vpop (pe_vvar 2)))
    (pss_vcons (ps_vexpr (pe_vappend (pe_vvar 2) (pa_vcons (pe_vdiv (pe_vvar 3) (pe_vvar 1)) pa_vnil)))
    (pss_vone (ps_vret (pe_vmod (pe_vcallTy cv_int call_int1 (by rfl) B.int_ (by decide +kernel) (pa_vcons (pe_vvar 3) pa_vnil)) (pe_vvar 1)))))) pss_vnil)
    (pss_vcons (ps_vput (hu1 hr.units) (pe_vvar 0) pe_vstr (pe_vmod (pe_vcallTy cv_int call_int1 (by rfl) B.int_ (by decide +kernel) (pa_vcons (pe_vadd (pe_vmul (pe_vrd (hu1 hr.units) (pe_vvar 0) pe_vstr (fun _ _ => rfl)) pe_vint) pe_vint) pa_vnil)) pe_vint))
    (pss_vone (ps_vret (pe_vmod (pe_vcallTy cv_int call_int1 (by rfl) B.int_ (by decide +kernel) (pa_vcons (pe_vdiv (pe_vrd (hu1 hr.units) (pe_vvar 0) pe_vstr (fun _ _ => rfl)) pe_vint) pa_vnil)) (pe_vvar 1))))))))
abbrev n_pick : List Str := ["_law_deal", "_law_some"]
theorem sc_pick : FnScope n_pick ["_law_deal", "_law_some"] (defScope s_law_pick) := ⟨rfl, rfl, rfl, by decide +kernel, rfl, by decide +kernel, by decide +kernel⟩
def b_pick (c : CS) : VS := (vRet (vBin gIx (vVar 1) (vCall (f_draw c) (vCons (vVar 0) (vCons (vB gLen (vCons (vVar 1) vNil)) vNil)))))
def f_pick (c : CS) : VF := vDef 2 (b_pick c)
theorem okv_pick {f : Addr} {fd : FuncData} (F : Fun K "_law_pick" "_law_pick" s_law_pick f fd) (B : Bn mg) (D_draw : DV P w K mg base "_law_draw" 1 2 (f_draw c)) : FnOk P w K mg base (L2.CX P w) 2 f fd ["_law_deal", "_law_some"] (SpV K 2 (f_pick c)) :=
  okV F sc_pick fun cdv A outer s H E hr => (pss_vone (ps_vret (pe_vix (fun _ _ => rfl) (pe_vvar 1) (pe_vcall D_draw.g (hr.mono (by decide)) (by rfl) D_draw.m D_draw.kp D_draw.b (takes_of rfl rfl rfl rfl) (pa_vcons (pe_vvar 0) (pa_vcons (pe_vcallB cv_len call_len1 (by rfl) B.len_ (by decide +kernel) (pa_vcons (pe_vvar 1) pa_vnil)) pa_vnil)) (vcons_len (vcons_len vnil_len))))))
abbrev n_row : List Str := ["_law_deal", "_law_sort"]
theorem sc_row : FnScope n_row ["_law_deal", "_law_sort"] (defScope s_law_row) := ⟨rfl, rfl, rfl, by decide +kernel, rfl, by decide +kernel, by decide +kernel⟩
def b_row (c : CS) : VS := (vSeq (vIf (vTest (vBin dEq (vVar 1) (vC (.str "keep")))) (vRet (vTup (vCons (vVar 1) (vCons (vCall (f_pick c) (vCons (vVar 0) (vCons (vVal (vLst (vCons (vC (.str "good")) (vCons (vC (.str "all")) vNil)))) vNil))) (vCons (vCall (f_pick c) (vCons (vVar 0) (vCons (vVal (vLst (vCons (vC .non) (vCons (vC .non) (vCons (vC (.int 0)) (vCons (vC (.int 1)) (vCons (vC (.int 2)) (vCons (vC (.int 3)) vNil)))))))) vNil))) vNil))))) vNext)
    (vSeq (vIf (vTest (vBin dEq (vVar 1) (vC (.str "tries")))) (vRet (vTup (vCons (vVar 1) (vCons (vBin gAdd (vC (.int 1)) (vCall (f_draw c) (vCons (vVar 0) (vCons (vC (.int 3)) vNil)))) (vCons (vCall (f_pick c) (vCons (vVar 0) (vCons (vVal (vLst (vCons (vC (.str "fault")) (vCons (vC (.str "all")) vNil)))) vNil))) vNil))))) vNext)
    (vSeq (vIf (vTest (vBin dEq (vVar 1) (vC (.str "limit")))) (vRet (vTup (vCons (vVar 1) (vCons (vBin gAdd (vC (.int 1)) (vCall (f_draw c) (vCons (vVar 0) (vCons (vC (.int 4)) vNil)))) vNil)))) vNext)
    (vRet (vIfE (vTest (vBin dEq (vVar 1) (vC (.str "soft")))) (vTup (vCons (vVar 1) (vCons (vCall (f_pick c) (vCons (vVar 0) (vCons (vVal (vLst (vCons (vC (.str "fault")) (vCons (vC (.str "all")) vNil)))) vNil))) vNil))) (vTup (vCons (vVar 1) vNil)))))))
def f_row (c : CS) : VF := vDef 2 (b_row c)
theorem okv_row {f : Addr} {fd : FuncData} (F : Fun K "_law_row" "_law_row" s_law_row f fd) (B : Bn mg) (D_pick : DV P w K mg base "_law_pick" 2 2 (f_pick c)) (D_draw : DV P w K mg base "_law_draw" 1 2 (f_draw c)) : FnOk P w K mg base (L2.CX P w) 3 f fd ["_law_deal", "_law_sort"] (SpV K 2 (f_row c)) :=
  okV F sc_row fun cdv A outer s H E hr => (pss_vcons (ps_vif (pt_veq hr.units (pe_vvar 1) pe_vstr) (pss_vone (ps_vret (pe_vtup (pa_vcons (pe_vvar 1) (pa_vcons (pe_vcall D_pick.g (hr.mono (by decide)) (by rfl) D_pick.m D_pick.kp D_pick.b (takes_of rfl rfl rfl rfl) (pa_vcons (pe_vvar 0) (pa_vcons (pe_vval (pe_vlst (pa_vcons pe_vstr (pa_vcons pe_vstr pa_vnil)))) pa_vnil)) (vcons_len (vcons_len vnil_len))) (pa_vcons (pe_vcall D_pick.g (hr.mono (by decide)) (by rfl) D_pick.m D_pick.kp D_pick.b (takes_of rfl rfl rfl rfl) (pa_vcons (pe_vvar 0) (pa_vcons (pe_vval (pe_vlst (pa_vcons pe_vnon (pa_vcons pe_vnon (pa_vcons pe_vint (pa_vcons pe_vint (pa_vcons pe_vint (pa_vcons pe_vint pa_vnil)))))))) pa_vnil)) (vcons_len (vcons_len vnil_len))) pa_vnil)))))) pss_vnil)
    (pss_vcons (ps_vif (pt_veq hr.units (pe_vvar 1) pe_vstr) (pss_vone (ps_vret (pe_vtup (pa_vcons (pe_vvar 1) (pa_vcons (pe_vadd pe_vint (pe_vcall D_draw.g (hr.mono (by decide)) (by rfl) D_draw.m D_draw.kp D_draw.b (takes_of rfl rfl rfl rfl) (pa_vcons (pe_vvar 0) (pa_vcons pe_vint pa_vnil)) (vcons_len (vcons_len vnil_len)))) (pa_vcons (pe_vcall D_pick.g (hr.mono (by decide)) (by rfl) D_pick.m D_pick.kp D_pick.b (takes_of rfl rfl rfl rfl) (pa_vcons (pe_vvar 0) (pa_vcons (pe_vval (pe_vlst (pa_vcons pe_vstr (pa_vcons pe_vstr pa_vnil)))) pa_vnil)) (vcons_len (vcons_len vnil_len))) pa_vnil)))))) pss_vnil)
    (pss_vcons (ps_vif (pt_veq hr.units (pe_vvar 1) pe_vstr) (pss_vone (ps_vret (pe_vtup (pa_vcons (pe_vvar 1) (pa_vcons (pe_vadd pe_vint (pe_vcall D_draw.g (hr.mono (by decide)) (by rfl) D_draw.m D_draw.kp D_draw.b (takes_of rfl rfl rfl rfl) (pa_vcons (pe_vvar 0) (pa_vcons pe_vint pa_vnil)) (vcons_len (vcons_len vnil_len)))) pa_vnil))))) pss_vnil)
    (pss_vone (ps_vret (pe_vifE (pt_veq hr.units (pe_vvar 1) pe_vstr) (pe_vtup (pa_vcons (pe_vvar 1) (pa_vcons (pe_vcall D_pick.g (hr.mono (by decide)) (by rfl) D_pick.m D_pick.kp D_pick.b (takes_of rfl rfl rfl rfl) (pa_vcons (pe_vvar 0) (pa_vcons (pe_vval (pe_vlst (pa_vcons pe_vstr (pa_vcons pe_vstr pa_vnil)))) pa_vnil)) (vcons_len (vcons_len vnil_len))) pa_vnil))) (pe_vtup (pa_vcons (pe_vvar 1) pa_vnil))))))))
abbrev n_mixed : List Str := ["_law_deal", "_law_some", "_law_turn", "_law_others", "_law_found"]
theorem sc_mixed : FnScope n_mixed ["_law_deal", "_law_some"] (defScope s_law_mixed) := ⟨rfl, rfl, rfl, by decide +kernel, rfl, by decide +kernel, by decide +kernel⟩
def b_mixed (c : CS) : VS := (vSeq (vFrz 4 (vFrz 3 (vPar 3 4 (vCons (vOwn (vBN gListOf (vCons (vVar 1) vNil))) (vCons (vOwn (vLst vNil)) vNil)))))
    (vSeq (vFor (vRange (vB gLen (vCons (vVar 3) vNil))) (vgName 2) (vDrop (vMet gAppend (vVar 4) (vCons (vMet gPopAt (vVar 3) (vCons (vCall (f_draw c) (vCons (vVar 0) (vCons (vB gLen (vCons (vVar 3) vNil)) vNil))) vNil)) vNil))))
    (vFrz 4 (vRet (vVar 4)))))
def f_mixed (c : CS) : VF := vDef 5 (b_mixed c)
theorem okv_mixed {f : Addr} {fd : FuncData} (F : Fun K "_law_mixed" "_law_mixed" s_law_mixed f fd) (B : Bn mg) (D_draw : DV P w K mg base "_law_draw" 1 2 (f_draw c)) : FnOk P w K mg base (L2.CX P w) 2 f fd ["_law_deal", "_law_some"] (SpV K 2 (f_mixed c)) :=
  okV F sc_mixed fun cdv A outer s H E hr => (pss_vcons (ps_frz 4 (ps_frz 3 (ps_vpar (i := 3) (j := 4) rfl sc_mixed.nd rfl rfl (by decide) rfl rfl (pa_vcons (pe_vown (pe_vcallTyN cv_list call_list_of (by rfl) B.list_ (by decide +kernel) (pa_vcons (pe_vvar 1) pa_vnil))) (pa_vcons (pe_vown (pe_vlst pa_vnil)) pa_vnil)) (by rfl))))
    (pss_vcons (ps_vfor (passes_of rfl) rfl (pi_vrange (by rfl) B.range_ (pe_vcallB cv_len call_len1 (by rfl) B.len_ (by decide +kernel) (pa_vcons (pe_vvar 3) pa_vnil))) (pg_vname (i := 2) sc_mixed.nd rfl (Or.inl rfl)) (pss_vone (ps_vexpr (pe_vappend (pe_vvar 4) (pa_vcons (pe_vpopAt (pe_vvar 3) (pa_vcons (pe_vcall D_draw.g (hr.mono (by decide)) (by rfl) D_draw.m D_draw.kp D_draw.b (takes_of rfl rfl rfl rfl) (pa_vcons (pe_vvar 0) (pa_vcons (pe_vcallB cv_len call_len1 (by rfl) B.len_ (by decide +kernel) (pa_vcons (pe_vvar 3) pa_vnil)) pa_vnil)) (vcons_len (vcons_len vnil_len))) pa_vnil)) pa_vnil)))))
    (pss_vone (ps_frz 4 (ps_vret (pe_vvar 4))))))
abbrev n_rows : List Str := ["_law_deal", "_law_amount", "_law_sorts", "_law_sort"]
theorem sc_rows : FnScope n_rows ["_law_deal", "_law_amount"] (defScope s_law_rows) := ⟨rfl, rfl, rfl, by decide +kernel, rfl, by decide +kernel, by decide +kernel⟩
def b_rows (c : CS) : VS := (vSeq (vSet 2 (vVal (vLst (vCons (vC (.str "keep")) (vCons (vC (.str "tries")) (vCons (vC (.str "limit")) (vCons (vC (.str "leave")) (vCons (vC (.str "soft")) (vCons (vC (.str "count")) (vCons (vC (.str "lend")) (vCons (vC (.str "keep")) (vCons (vC (.str "tries")) (vCons (vC (.str "soft")) (vCons (vC (.str "count")) (vCons (vC (.str "leave")) vNil)))))))))))))))
    (vRet (vVal (vComp [3] (vItems (vVal (vSliceL (vCall (f_mixed c) (vCons (vVar 0) (vCons (vVar 2) vNil))) vNoPart (vPart (vVar 1))))) (vgName 3) vYes (vCall (f_row c) (vCons (vVar 0) (vCons (vVar 3) vNil)))))))
def f_rows (c : CS) : VF := vDef 4 (b_rows c)
theorem okv_rows {f : Addr} {fd : FuncData} (F : Fun K "_law_rows" "_law_rows" s_law_rows f fd) (B : Bn mg) (D_mixed : DV P w K mg base "_law_mixed" 2 2 (f_mixed c)) (D_row : DV P w K mg base "_law_row" 3 2 (f_row c)) : FnOk P w K mg base (L2.CX P w) 4 f fd ["_law_deal", "_law_amount"] (SpV K 2 (f_rows c)) :=
  okV F sc_rows fun cdv A outer s H E hr => (pss_vcons (ps_vset (i := 2) sc_rows.nd rfl (Or.inl rfl) (pe_vval (pe_vlst (pa_vcons pe_vstr (pa_vcons pe_vstr (pa_vcons pe_vstr (pa_vcons pe_vstr (pa_vcons pe_vstr (pa_vcons pe_vstr (pa_vcons pe_vstr (pa_vcons pe_vstr (pa_vcons pe_vstr (pa_vcons pe_vstr (pa_vcons pe_vstr (pa_vcons pe_vstr pa_vnil)))))))))))))))
    (pss_vone (ps_vret (pe_vval (pe_vcomp (own := [("_law_sort", 3)]) (by decide) rfl sc_rows.nd (pi_vseq (pe_vval (pe_vsliceL (pe_vcall D_mixed.g (hr.mono (by decide)) (by rfl) D_mixed.m D_mixed.kp D_mixed.b (takes_of rfl rfl rfl rfl) (pa_vcons (pe_vvar 0) (pa_vcons (pe_vvar 2) pa_vnil)) (vcons_len (vcons_len vnil_len))) po_vnone (po_vsome (pe_vvar 1))))) (blkOk_by (N := n_rows) (sc := defScope s_law_rows) (by decide +kernel)) (fun _ _ _ _ _ => (pg_vname (i := 3) sc_rows.nd rfl (Or.inl rfl))) (fun _ _ _ _ _ => pts_vnil) (fun _ _ _ _ _ => (pe_vcall D_row.g (hr.mono (by decide)) (by rfl) D_row.m D_row.kp D_row.b takes0 (pa_vcons (pe_vvar 0) (pa_vcons (pe_vvar 3) pa_vnil)) (vcons_len (vcons_len vnil_len)))))))))
abbrev n_row_text : List Str := ["_law_row_here", "_law_words", "_law_part"]
theorem sc_row_text : FnScope n_row_text ["_law_row_here"] (defScope s_law_row_text) := ⟨rfl, rfl, rfl, by decide +kernel, rfl, by decide +kernel, by decide +kernel⟩
def b_row_text (c : CS) : VS := (vSeq (vSet 1 (vVal (vComp [2] (vItems (vVar 0)) (vgName 2) vYes (vB gStrF (vCons (vVar 2) vNil)))))
    (vRet (vIfE (vTest (vIsN false (vBin gIx (vVar 0) (vC (.int (-1)))))) (vM1 gJoin (vC (.str " ")) (vVal (vBinN gCat (vVal (vSliceL (vVar 1) vNoPart (vPart (vC (.int (-1)))))) (vVal (vLst (vCons (vC (.str "ever")) vNil)))))) (vM1 gJoin (vC (.str " ")) (vVar 1)))))
def f_row_text (c : CS) : VF := vDef 3 (b_row_text c)
theorem okv_row_text {f : Addr} {fd : FuncData} (F : Fun K "_law_row_text" "_law_row_text" s_law_row_text f fd) (B : Bn mg) : FnOk P w K mg base (L2.CX P w) 1 f fd ["_law_row_here"] (SpV K 1 (f_row_text c)) :=
  okV F sc_row_text fun cdv A outer s H E hr => (pss_vcons (ps_vsetLc (own := [("_law_part", 2)]) (by decide) rfl sc_row_text.nd (i := 1) rfl rfl (sw_true rfl rfl rfl (by decide +kernel)) (pi_vseq (pe_vvar 0)) (blkOk_by (N := n_row_text) (sc := defScope s_law_row_text) (by decide +kernel)) (fun _ _ _ _ _ => (pg_vname (i := 2) sc_row_text.nd rfl (Or.inl rfl))) (fun _ _ _ _ _ => pts_vnil) (fun _ _ _ _ _ => (pe_vcallTy cv_strF call_strF (by rfl) B.str_ (by decide +kernel) (pa_vcons (pe_vvar 2) pa_vnil))))
    (pss_vone (ps_vret (pe_vifE (pt_visN (pe_vix (fun _ _ => rfl) (pe_vvar 0) pe_vneg)) (pe_vjoin pe_vstr (pe_vval (pe_vcat (pe_vval (pe_vsliceL (pe_vvar 1) po_vnone (po_vsome pe_vneg))) (pe_vval (pe_vlst (pa_vcons pe_vstr pa_vnil)))))) (pe_vjoin pe_vstr (pe_vvar 1))))))
abbrev n_every_row : List Str := ["keeps", "tries", "limits", "softs", "what", "life", "many", "on"]
theorem sc_every_row : FnScope n_every_row [] (defScope s_every_row) := ⟨rfl, rfl, rfl, by decide +kernel, rfl, by decide +kernel, by decide +kernel⟩
def b_every_row (c : CS) : VS := (vSeq (vSet 0 (vVal (vComp2 [4, 5] [5] (vItems (vC (.tup [(.str "good"), (.str "all")]))) (vgName 4) vYes (vItems (vTup (vCons (vC .non) (vStar (vC (.tup [(.int 0), (.int 1), (.int 2), (.int 3)])) vNil)))) (vgName 5) vYes (vInsD (vMake c.Keep (f_Keep_init c) (vCons (vVar 4) (vCons (vVar 5) vNil)))))))
    (vSeq (vSet 1 (vVal (vComp2 [6, 7] [7] (vItems (vC (.tup [(.int 1), (.int 2), (.int 3)]))) (vgName 6) vYes (vItems (vC (.tup [(.str "fault"), (.str "all")]))) (vgName 7) vYes (vInsD (vMake c.Tries (f_Tries_init c) (vCons (vVar 6) (vCons (vVar 7) vNil)))))))
    (vSeq (vSet 2 (vVal (vComp [6] (vItems (vC (.tup [(.int 1), (.int 2), (.int 3), (.int 4), (.int 5), (.int 6)]))) (vgName 6) vYes (vInsD (vMake c.Limit (f_Limit_init c) (vCons (vVar 6) vNil))))))
    (vSeq (vSet 3 (vVal (vComp [7] (vItems (vC (.tup [(.str "fault"), (.str "all")]))) (vgName 7) vYes (vInsD (vMake c.Soft (f_Soft_init c) (vCons (vVar 7) vNil))))))
    (vRet (vVal (vLst (vStar (vVar 0) (vStar (vVar 1) (vStar (vVar 2) (vStar (vVar 3) (vCons (vInsD (vMakeO c.Leave)) (vCons (vInsD (vMakeO c.Count)) (vCons (vInsD (vMakeO c.Lend)) vNil))))))))))))))
def f_every_row (c : CS) : VF := vDef 8 (b_every_row c)
theorem okv_every_row {f : Addr} {fd : FuncData} (F : Fun K "every_row" "every_row" s_every_row f fd) (B : Bn mg) (MO_Lend : Own.MkO K c.Lend) (M_Lend : mg "Lend" = some (.ref c.Lend)) (MO_Count : Own.MkO K c.Count) (M_Count : mg "Count" = some (.ref c.Count)) (MO_Leave : Own.MkO K c.Leave) (M_Leave : mg "Leave" = some (.ref c.Leave)) (G_FAULTS : GV K mg "FAULTS" (.tup [(.str "fault"), (.str "all")])) (MI_Soft : MI P w K mg base 2 2 "Soft" c.Soft (f_Soft_init c)) (G_MOST_TRIES : GV K mg "MOST_TRIES" (.tup [(.int 1), (.int 2), (.int 3), (.int 4), (.int 5), (.int 6)])) (MI_Limit : MI P w K mg base 3 2 "Limit" c.Limit (f_Limit_init c)) (G_MOST_ASKED : GV K mg "MOST_ASKED" (.tup [(.int 1), (.int 2), (.int 3)])) (MI_Tries : MI P w K mg base 3 3 "Tries" c.Tries (f_Tries_init c)) (G_KEPT_ANSWERS : GV K mg "KEPT_ANSWERS" (.tup [(.str "good"), (.str "all")])) (G_LIVES : GV K mg "LIVES" (.tup [(.int 0), (.int 1), (.int 2), (.int 3)])) (MI_Keep : MI P w K mg base 3 3 "Keep" c.Keep (f_Keep_init c)) : FnOk P w K mg base (L2.CX P w) 5 f fd [] (SpV K 0 (f_every_row c)) :=
  okV F sc_every_row fun cdv A outer s H E hr => (pss_vcons (ps_vsetLc2 (own := [("what", 4), ("life", 5)]) (vs1 := [5]) (by decide) (by decide) (by decide) rfl sc_every_row.nd (i := 0) rfl rfl (sw_true rfl rfl rfl (by decide +kernel)) (pi_vseq (pe_vglob (by rfl) G_KEPT_ANSWERS.m G_KEPT_ANSWERS.r G_KEPT_ANSWERS.rp)) (blkOk_by (N := n_every_row) (sc := defScope s_every_row) (by decide +kernel)) (fun _ _ _ _ _ => (pg_vname (i := 4) sc_every_row.nd rfl (Or.inl rfl))) (fun _ _ _ _ _ => pts_vnil) (fun _ _ _ _ _ => (pi_vseq (pe_vtup (pa_vcons pe_vnon (pa_vstar (pe_vglob (by rfl) G_LIVES.m G_LIVES.r G_LIVES.rp) pa_vnil))))) (fun _ _ _ _ _ => (pg_vname (i := 5) sc_every_row.nd rfl (Or.inl rfl))) (fun _ _ _ _ _ => pts_vnil) (fun _ _ _ _ _ => (pe_vinsD (pe_vmake MI_Keep.mks MI_Keep.g (hr.mono (by decide)) (by rfl) MI_Keep.m MI_Keep.b takes0 (pa_vcons (pe_vvar 4) (pa_vcons (pe_vvar 5) pa_vnil)) (by intro s ss m e; rw [(vcons_len (vcons_len vnil_len)) s ss m e])))))
    (pss_vcons (ps_vsetLc2 (own := [("many", 6), ("on", 7)]) (vs1 := [7]) (by decide) (by decide) (by decide) rfl sc_every_row.nd (i := 1) rfl rfl (sw_true rfl rfl rfl (by decide +kernel)) (pi_vseq (pe_vglob (by rfl) G_MOST_ASKED.m G_MOST_ASKED.r G_MOST_ASKED.rp)) (blkOk_by (N := n_every_row) (sc := defScope s_every_row) (by decide +kernel)) (fun _ _ _ _ _ => (pg_vname (i := 6) sc_every_row.nd rfl (Or.inl rfl))) (fun _ _ _ _ _ => pts_vnil) (fun _ _ _ _ _ => (pi_vseq (pe_vglob (by rfl) G_FAULTS.m G_FAULTS.r G_FAULTS.rp))) (fun _ _ _ _ _ => (pg_vname (i := 7) sc_every_row.nd rfl (Or.inl rfl))) (fun _ _ _ _ _ => pts_vnil) (fun _ _ _ _ _ => (pe_vinsD (pe_vmake MI_Tries.mks MI_Tries.g (hr.mono (by decide)) (by rfl) MI_Tries.m MI_Tries.b takes0 (pa_vcons (pe_vvar 6) (pa_vcons (pe_vvar 7) pa_vnil)) (by intro s ss m e; rw [(vcons_len (vcons_len vnil_len)) s ss m e])))))
    (pss_vcons (ps_vsetLc (own := [("many", 6)]) (by decide) rfl sc_every_row.nd (i := 2) rfl rfl (sw_true rfl rfl rfl (by decide +kernel)) (pi_vseq (pe_vglob (by rfl) G_MOST_TRIES.m G_MOST_TRIES.r G_MOST_TRIES.rp)) (blkOk_by (N := n_every_row) (sc := defScope s_every_row) (by decide +kernel)) (fun _ _ _ _ _ => (pg_vname (i := 6) sc_every_row.nd rfl (Or.inl rfl))) (fun _ _ _ _ _ => pts_vnil) (fun _ _ _ _ _ => (pe_vinsD (pe_vmake MI_Limit.mks MI_Limit.g (hr.mono (by decide)) (by rfl) MI_Limit.m MI_Limit.b takes0 (pa_vcons (pe_vvar 6) pa_vnil) (by intro s ss m e; rw [(vcons_len vnil_len) s ss m e])))))
    (pss_vcons (ps_vsetLc (own := [("on", 7)]) (by decide) rfl sc_every_row.nd (i := 3) rfl rfl (sw_true rfl rfl rfl (by decide +kernel)) (pi_vseq (pe_vglob (by rfl) G_FAULTS.m G_FAULTS.r G_FAULTS.rp)) (blkOk_by (N := n_every_row) (sc := defScope s_every_row) (by decide +kernel)) (fun _ _ _ _ _ => (pg_vname (i := 7) sc_every_row.nd rfl (Or.inl rfl))) (fun _ _ _ _ _ => pts_vnil) (fun _ _ _ _ _ => (pe_vinsD (pe_vmake MI_Soft.mks MI_Soft.g (hr.mono (by decide)) (by rfl) MI_Soft.m MI_Soft.b takes0 (pa_vcons (pe_vvar 7) pa_vnil) (by intro s ss m e; rw [(vcons_len vnil_len) s ss m e])))))
    (pss_vone (ps_vret (pe_vval (pe_vlst (pa_vstar (pe_vvar 0) (pa_vstar (pe_vvar 1) (pa_vstar (pe_vvar 2) (pa_vstar (pe_vvar 3) (pa_vcons (pe_vinsD (pe_vmakeO MO_Leave (by rfl) M_Leave)) (pa_vcons (pe_vinsD (pe_vmakeO MO_Count (by rfl) M_Count)) (pa_vcons (pe_vinsD (pe_vmakeO MO_Lend (by rfl) M_Lend)) pa_vnil)))))))))))))))
abbrev n_Row_read : List Str := ["cls", "text", "row"]
theorem sc_Row_read : FnScope n_Row_read ["cls", "text"] (defScope s_Row_read) := ⟨rfl, rfl, rfl, by decide +kernel, rfl, by decide +kernel, by decide +kernel⟩
def b_Row_read (c : CS) : VS := (vSeq (vFor (vItems (vCall (f_every_row c) vNil)) (vgName 2) (vIf (vTest (vBin dEq (vB (gStrO (ok_Row c) (f_Row_str c)) (vCons (vVar 2) vNil)) (vVar 1))) (vRet (vVar 2)) vNext))
    vNever)
def f_Row_read (c : CS) : VF := vDef 3 (b_Row_read c)
theorem okv_Row_read {f : Addr} {fd : FuncData} (F : Fun K "read" "Row.read" s_Row_read f fd) (B : Bn mg) (D_every_row : DV P w K mg base "every_row" 5 0 (f_every_row c)) (S_Row : DM P w K mg base 2 1 (f_Row_str c)) (W_Row : ∀ C, ok_Row c C = true → ∃ ge, Own.OwnC K C S_Row.a ge) : FnOk P w K mg base (L2.CX P w) 6 f fd ["cls", "text"] (SpV K 2 (f_Row_read c)) :=
  okV F sc_Row_read fun cdv A outer s H E hr => (pss_vcons (ps_vfor (passes_of rfl) rfl (pi_vseq (pe_vcall0 D_every_row.g (hr.mono (by decide)) (by rfl) D_every_row.m D_every_row.kp D_every_row.b (takes_of rfl rfl rfl rfl))) (pg_vname (i := 2) sc_Row_read.nd rfl (Or.inl rfl)) (pss_vone (ps_vif (pt_veq hr.units (pe_vstrO S_Row.g S_Row.b W_Row (hr.mono (by decide)) (by rfl) B.str_ (by decide +kernel) (pa_vcons (pe_vvar 2) pa_vnil)) (pe_vvar 1)) (pss_vone (ps_vret (pe_vvar 2))) pss_vnil)))
    (pss_vone ps_vnever))
abbrev n_law : List Str := ["_law_script", "_law_every_here", "_law_deal", "_law_turn", "_law_at", "_law_row_here", "_law_words", "_law_spot", "_law_other", "_law_more"]
theorem sc_law : FnScope n_law ["_law_script"] (defScope s_law) := ⟨rfl, rfl, rfl, by decide +kernel, rfl, by decide +kernel, by decide +kernel⟩
def b_law (c : CS) : VS := (vSeq (vSet 1 (vCall (f_every c) vNil))
    (vSeq (vFor (vEnum (vCons (vVar 1) vNil)) (vgTup [(vgName 4), (vgTup [(vgName 5), (vgName 6)])]) (vSeq (vIf (vOr (vTest (vBin dNe (vB (gStrO (ok_Row c) (f_Row_str c)) (vCons (vVar 5) vNil)) (vM1 gJoin (vC (.str " ")) (vVar 6)))) (vOr (vNot (vTest (vIsi (tyTab (fun _ => false) (ct_Row c)) (vVar 5)))) (vTest (vBin (gEqO (okq_Row c) (f_Row_eq c) not) (vVar 5) (vCMeth c.Row (f_Row_read c) (vCons (vM1 gJoin (vC (.str " ")) (vVar 6)) vNil)))))) (vRet (vC (.bl false))) vNext)
    (vSeq (vIf (vOr (vTest (vBin (gInO (ok_Row c) (f_Row_eq c)) (vVar 5) (vTup (vCons (vM1 gJoin (vC (.str " ")) (vVar 6)) (vCons (vB gTupOf (vCons (vVar 6) vNil)) (vCons (vC .non) vNil)))))) (vTest (vBin (gEqO (okq_Row c) (f_Row_eq c) not) (vVar 5) (vVar 5)))) (vRet (vC (.bl false))) vNext)
    (vFor (vEnum (vCons (vVar 1) vNil)) (vgTup [(vgName 7), (vgTup [(vgName 8), (vgName 9)])]) (vIf (vOr (vTest (vBin dNe (vBin (gEqO (okq_Row c) (f_Row_eq c) id) (vVar 5) (vVar 8)) (vBin dEq (vVar 4) (vVar 7)))) (vTest (vBin dNe (vBin (gEqO (okq_Row c) (f_Row_eq c) not) (vVar 5) (vVar 8)) (vBin dNe (vVar 4) (vVar 7))))) (vRet (vC (.bl false))) vNext)))))
    (vSeq (vIf (vOr (vTest (vBin (gEqO (okq_Row c) (f_Row_eq c) not) (vInsD (vMakeD c.Keep (f_Keep_init c) [(.str "good"), .non] vNil)) (vInsD (vMake c.Keep (f_Keep_init c) (vCons (vC (.str "good")) (vCons (vC .non) vNil)))))) (vOr (vTest (vBin (gEqO (okq_Row c) (f_Row_eq c) not) (vInsD (vMakeD c.Keep (f_Keep_init c) [.non] (vCons (vC (.str "all")) vNil))) (vInsD (vMake c.Keep (f_Keep_init c) (vCons (vC (.str "all")) (vCons (vC .non) vNil)))))) (vTest (vBin (gEqO (okq_Row c) (f_Row_eq c) not) (vInsD (vMakeD c.Tries (f_Tries_init c) [(.str "fault")] (vCons (vC (.int 2)) vNil))) (vInsD (vMake c.Tries (f_Tries_init c) (vCons (vC (.int 2)) (vCons (vC (.str "fault")) vNil)))))))) (vRet (vC (.bl false))) vNext)
    (vSeq (vIf (vOr (vTest (vBin (gEqO (okq_Row c) (f_Row_eq c) not) (vInsD (vMakeD c.Soft (f_Soft_init c) [(.str "fault")] vNil)) (vInsD (vMake c.Soft (f_Soft_init c) (vCons (vC (.str "fault")) vNil))))) (vNot (vTest (vCall (f_parts_right c) vNil)))) (vRet (vC (.bl false))) vNext)
    (vSeq (vSet 2 (vCall (f_source c) (vCons (vVar 0) (vCons (vC (.int 0)) vNil))))
    (vSeq (vFor (vRange (vC (.int 6))) (vgName 3) (vSeq (vSet 5 (vBin gIx (vCall (f_rows c) (vCons (vVar 2) (vCons (vC (.int 1)) vNil))) (vC (.int 0))))
    (vIf (vTest (vBin dNe (vB (gStrO (ok_Row c) (f_Row_str c)) (vCons (vCMeth c.Row (f_Row_read c) (vCons (vCall (f_row_text c) (vCons (vVar 5) vNil)) vNil)) vNil)) (vCall (f_row_text c) (vCons (vVar 5) vNil)))) (vRet (vC (.bl false))) vNext)))
    (vRet (vC (.bl true)))))))))
def f_law (c : CS) : VF := vDef 10 (b_law c)
theorem okv_law {f : Addr} {fd : FuncData} (F : Fun K "law" "law" s_law f fd) (B : Bn mg) (D_row_text : DV P w K mg base "_law_row_text" 1 1 (f_row_text c)) (D_rows : DV P w K mg base "_law_rows" 4 2 (f_rows c)) (D_source : DV P w K mg base "_law_source" 1 2 (f_source c)) (D_parts_right : DG P w K mg base "_law_parts_right" 5 0 (f_parts_right c)) (D_every : DV P w K mg base "_law_every" 5 0 (f_every c)) (S_Row : DM P w K mg base 2 1 (f_Row_str c)) (W_Row : ∀ C, ok_Row c C = true → ∃ ge, Own.OwnC K C S_Row.a ge) (C_Row_read : CM P w K mg base 6 2 "read" c.Row (f_Row_read c)) (M_Row : mg "Row" = some (.ref c.Row)) (MD_Soft_1 : MD P w K mg base 2 2 c.Soft (f_Soft_init c) [(.str "fault")]) (M_Soft : mg "Soft" = some (.ref c.Soft)) (MI_Soft : MI P w K mg base 2 2 "Soft" c.Soft (f_Soft_init c)) (Q_Row : DM P w K mg base 5 2 (f_Row_eq c)) (WQ_Row : EqOk K Q_Row.a (okq_Row c)) (MD_Tries_1 : MD P w K mg base 3 3 c.Tries (f_Tries_init c) [(.str "fault")]) (M_Tries : mg "Tries" = some (.ref c.Tries)) (MI_Tries : MI P w K mg base 3 3 "Tries" c.Tries (f_Tries_init c)) (MD_Keep_1 : MD P w K mg base 3 3 c.Keep (f_Keep_init c) [.non]) (M_Keep : mg "Keep" = some (.ref c.Keep)) (MI_Keep : MI P w K mg base 3 3 "Keep" c.Keep (f_Keep_init c)) (MD_Keep_2 : MD P w K mg base 3 3 c.Keep (f_Keep_init c) [(.str "good"), .non]) (IO_Row : InOk K Q_Row.a (ok_Row c)) (I_Row : IsT K [.ref c.Row] (tyTab (fun _ => false) (ct_Row c))) : FnG P w K mg base 7 f fd ["_law_script"] (SpV K 1 (f_law c)) :=
  okVG F sc_law fun cdv A outer s H E hr hgd => (pss_vcons (ps_vset (i := 1) sc_law.nd rfl (Or.inl rfl) (pe_vcall0 D_every.g (hr.mono (by decide)) (by rfl) D_every.m D_every.kp D_every.b (takes_of rfl rfl rfl rfl)))
    (pss_vcons (ps_vfor (passes_of rfl) rfl (pi_venum (by rfl) B.enumerate_ (pa_vcons (pe_vvar 1) pa_vnil)) (pg_vtup rfl (pgs_vcons (pg_vname (i := 4) sc_law.nd rfl (Or.inl rfl)) (pgs_vcons (pg_vtup rfl (pgs_vcons (pg_vname (i := 5) sc_law.nd rfl (Or.inl rfl)) (pgs_vcons (pg_vname (i := 6) sc_law.nd rfl (Or.inl rfl)) pgs_vnil))) pgs_vnil))) (pss_vcons (ps_vif (PW.pt (pw_vor (pt_vne hr.units (pe_vstrO S_Row.g S_Row.b W_Row (hr.mono (by decide)) (by rfl) B.str_ (by decide +kernel) (pa_vcons (pe_vvar 5) pa_vnil)) (pe_vjoin pe_vstr (pe_vvar 6))) (pw_vor (pt_vnot (pt_vval (pe_visi (tyTab (fun _ => false) (ct_Row c)) I_Row (by rfl) B.isinstance_ (pe_vvar 5) (pe_glob (v := .ref c.Row) (by rfl) M_Row rfl) (.own _)))) (pw_vor1 (pt_vneO Q_Row.g Q_Row.b WQ_Row (hr.mono (by decide)) (pe_vvar 5) (pe_vcmeth C_Row_read (pe_glob (v := .ref c.Row) (by rfl) M_Row rfl) (hr.mono (by decide)) (takes_of rfl rfl rfl rfl) (pa_vcons (pe_vjoin pe_vstr (pe_vvar 6)) pa_vnil) (by intro s ss m e; rw [(vcons_len vnil_len) s ss m e]))))))) (pss_vone (ps_vret pe_vbl)) pss_vnil)
    (pss_vcons (ps_vif (PW.pt (pw_vor (pt_vinO Q_Row.g Q_Row.b IO_Row (hr.mono (by decide)) (pe_vvar 5) (pe_vtup (pa_vcons (pe_vjoin pe_vstr (pe_vvar 6)) (pa_vcons (pe_vcallTy cv_tup call_tuple_of (by rfl) B.tuple_ (by decide +kernel) (pa_vcons (pe_vvar 6) pa_vnil)) (pa_vcons pe_vnon pa_vnil)))) (by rfl)) (pw_vor1 (pt_vneO Q_Row.g Q_Row.b WQ_Row (hr.mono (by decide)) (pe_vvar 5) (pe_vvar 5))))) (pss_vone (ps_vret pe_vbl)) pss_vnil)
    (pss_vone (ps_vfor (passes_of rfl) rfl (pi_venum (by rfl) B.enumerate_ (pa_vcons (pe_vvar 1) pa_vnil)) (pg_vtup rfl (pgs_vcons (pg_vname (i := 7) sc_law.nd rfl (Or.inl rfl)) (pgs_vcons (pg_vtup rfl (pgs_vcons (pg_vname (i := 8) sc_law.nd rfl (Or.inl rfl)) (pgs_vcons (pg_vname (i := 9) sc_law.nd rfl (Or.inl rfl)) pgs_vnil))) pgs_vnil))) (pss_vone (ps_vif (PW.pt (pw_vor (pt_vne hr.units (pe_veqO Q_Row.g Q_Row.b WQ_Row (hr.mono (by decide)) (pe_vvar 5) (pe_vvar 8)) (pe_veq hr.units (pe_vvar 4) (pe_vvar 7))) (pw_vor1 (pt_vne hr.units (pe_vneO Q_Row.g Q_Row.b WQ_Row (hr.mono (by decide)) (pe_vvar 5) (pe_vvar 8)) (pe_vne hr.units (pe_vvar 4) (pe_vvar 7)))))) (pss_vone (ps_vret pe_vbl)) pss_vnil)))))))
    (pss_vcons (ps_vif (PW.pt (pw_vor (pt_vneO Q_Row.g Q_Row.b WQ_Row (hr.mono (by decide)) (pe_vinsD (pe_vmakeD0 MD_Keep_2 (hr.mono (by decide)) (by rfl) M_Keep (takes_of rfl rfl rfl rfl) rfl)) (pe_vinsD (pe_vmake MI_Keep.mks MI_Keep.g (hr.mono (by decide)) (by rfl) MI_Keep.m MI_Keep.b (takes_of rfl rfl rfl rfl) (pa_vcons pe_vstr (pa_vcons pe_vnon pa_vnil)) (by intro s ss m e; rw [(vcons_len (vcons_len vnil_len)) s ss m e])))) (pw_vor (pt_vneO Q_Row.g Q_Row.b WQ_Row (hr.mono (by decide)) (pe_vinsD (pe_vmakeD MD_Keep_1 (hr.mono (by decide)) (by rfl) M_Keep (takes_of rfl rfl rfl rfl) (pa_vcons pe_vstr pa_vnil) (by intro s ss m e; rw [(vcons_len vnil_len) s ss m e]; rfl))) (pe_vinsD (pe_vmake MI_Keep.mks MI_Keep.g (hr.mono (by decide)) (by rfl) MI_Keep.m MI_Keep.b (takes_of rfl rfl rfl rfl) (pa_vcons pe_vstr (pa_vcons pe_vnon pa_vnil)) (by intro s ss m e; rw [(vcons_len (vcons_len vnil_len)) s ss m e])))) (pw_vor1 (pt_vneO Q_Row.g Q_Row.b WQ_Row (hr.mono (by decide)) (pe_vinsD (pe_vmakeD MD_Tries_1 (hr.mono (by decide)) (by rfl) M_Tries (takes_of rfl rfl rfl rfl) (pa_vcons pe_vint pa_vnil) (by intro s ss m e; rw [(vcons_len vnil_len) s ss m e]; rfl))) (pe_vinsD (pe_vmake MI_Tries.mks MI_Tries.g (hr.mono (by decide)) (by rfl) MI_Tries.m MI_Tries.b (takes_of rfl rfl rfl rfl) (pa_vcons pe_vint (pa_vcons pe_vstr pa_vnil)) (by intro s ss m e; rw [(vcons_len (vcons_len vnil_len)) s ss m e])))))))) (pss_vone (ps_vret pe_vbl)) pss_vnil)
    (pss_vcons (ps_vif (PW.pt (pw_vor (pt_vneO Q_Row.g Q_Row.b WQ_Row (hr.mono (by decide)) (pe_vinsD (pe_vmakeD0 MD_Soft_1 (hr.mono (by decide)) (by rfl) M_Soft (takes_of rfl rfl rfl rfl) rfl)) (pe_vinsD (pe_vmake MI_Soft.mks MI_Soft.g (hr.mono (by decide)) (by rfl) MI_Soft.m MI_Soft.b (takes_of rfl rfl rfl rfl) (pa_vcons pe_vstr pa_vnil) (by intro s ss m e; rw [(vcons_len vnil_len) s ss m e])))) (pw_vor1 (pt_vnot (pt_vval (pe_vG0 D_parts_right (hr.mono (by decide)) hgd (by rfl) (takes_of rfl rfl rfl rfl))))))) (pss_vone (ps_vret pe_vbl)) pss_vnil)
    (pss_vcons (ps_vset (i := 2) sc_law.nd rfl (Or.inl rfl) (pe_vcall D_source.g (hr.mono (by decide)) (by rfl) D_source.m D_source.kp D_source.b (takes_of rfl rfl rfl rfl) (pa_vcons (pe_vvar 0) (pa_vcons pe_vint pa_vnil)) (vcons_len (vcons_len vnil_len))))
    (pss_vcons (ps_vfor (passes_of rfl) rfl (pi_vrange (by rfl) B.range_ pe_vint) (pg_vname (i := 3) sc_law.nd rfl (Or.inl rfl)) (pss_vcons (ps_vset (i := 5) sc_law.nd rfl (Or.inl rfl) (pe_vix (fun _ _ => rfl) (pe_vcall D_rows.g (hr.mono (by decide)) (by rfl) D_rows.m D_rows.kp D_rows.b (takes_of rfl rfl rfl rfl) (pa_vcons (pe_vvar 2) (pa_vcons pe_vint pa_vnil)) (vcons_len (vcons_len vnil_len))) pe_vint))
    (pss_vone (ps_vif (pt_vne hr.units (pe_vstrO S_Row.g S_Row.b W_Row (hr.mono (by decide)) (by rfl) B.str_ (by decide +kernel) (pa_vcons (pe_vcmeth C_Row_read (pe_glob (v := .ref c.Row) (by rfl) M_Row rfl) (hr.mono (by decide)) (takes_of rfl rfl rfl rfl) (pa_vcons (pe_vcall D_row_text.g (hr.mono (by decide)) (by rfl) D_row_text.m D_row_text.kp D_row_text.b (takes_of rfl rfl rfl rfl) (pa_vcons (pe_vvar 5) pa_vnil) (vcons_len vnil_len)) pa_vnil) (by intro s ss m e; rw [(vcons_len vnil_len) s ss m e])) pa_vnil)) (pe_vcall D_row_text.g (hr.mono (by decide)) (by rfl) D_row_text.m D_row_text.kp D_row_text.b (takes_of rfl rfl rfl rfl) (pa_vcons (pe_vvar 5) pa_vnil) (vcons_len vnil_len))) (pss_vone (ps_vret pe_vbl)) pss_vnil))))
    (pss_vone (ps_vret pe_vbl))))))))
end
end Vw
end
section
namespace Vw
open PySem PySem.Spec PyProof.Rows L2 Own Vs
open PySem.W (mg_of mg_none_of)
theorem pr_mk {K : PySem.W.Frag} {C p g : Addr} {f : Str} {rest : List Value} (h1 : PySem.W.findIn K (.ref C) f = some (some (.ref p))) (h2 : PySem.W.specialIn K (.ref p) "__get__" = some (some (.builtin "property.__get__"))) (h3 : PySem.W.takesIn K (.ref p) = some true) (h4 : PySem.W.recIn K p "property" = some (.ref g :: rest)) : PropOf K C f p g := ⟨h1, h2, h3, rest, h4⟩
theorem all_mk {P : Program} {w : World} {K : PySem.W.Frag} {h : Heap} {mg : Str → Option Value} {fa : Addr} (X : K.In h) (G : h.Ns mainGlobals mg) (hfa : mg "law" = some (.ref fa))
    {C_WrapError C_InvalidRow C_InvalidText C_Row C_Keep C_Tries C_Limit C_Leave C_Soft C_Count C_Lend K_MOST_TRIES K_FAULTS K_LIVES K_KEPT_ANSWERS K_MOST_ASKED A_Keep_init A_Tries_init A_Limit_init A_Soft_init A_Row_str A_Row_eq A_check_argument A_is_integer A_is_one_of A_every A_source A_Keep_words A_Tries_words A_Limit_words A_Leave_words A_Soft_words A_Count_words A_Lend_words A_parts_right A_draw A_pick A_row A_mixed A_rows A_row_text A_every_row A_Row_read P_Row_read A_law : Addr} {fd_check_argument fd_is_integer fd_is_one_of fd_Limit_init fd_Soft_init fd_Keep_init fd_Tries_init fd_every fd_source fd_Keep_words fd_Tries_words fd_Limit_words fd_Leave_words fd_Soft_words fd_Count_words fd_Lend_words fd_Row_str fd_Row_eq fd_parts_right fd_draw fd_pick fd_row fd_mixed fd_rows fd_row_text fd_every_row fd_Row_read fd_law : FuncData} {tk1_0 : Tok} {tk1_1 : Tok} {tk1_2 : Tok} {tk1_3 : Tok} {tk1_4 : Tok} {tk1_5 : Tok} {on1 : Nat} {oo1 : Option Addr} {os1 : Array (Option Value)} {tk2_0 : Tok} {tk2_1 : Tok} {on2 : Nat} {oo2 : Option Addr} {os2 : Array (Option Value)} {tk3_0 : Tok} {tk3_1 : Tok} {tk3_2 : Tok} {tk3_3 : Tok} {on3 : Nat} {oo3 : Option Addr} {os3 : Array (Option Value)} {tk4_0 : Tok} {tk4_1 : Tok} {on4 : Nat} {oo4 : Option Addr} {os4 : Array (Option Value)} {tk5_0 : Tok} {tk5_1 : Tok} {tk5_2 : Tok} {on5 : Nat} {oo5 : Option Addr} {os5 : Array (Option Value)}
    (a_WrapError : PySem.W.nsIn K mainGlobals "WrapError" = some (some (.ref C_WrapError)))
    (a_InvalidRow : PySem.W.nsIn K mainGlobals "InvalidRow" = some (some (.ref C_InvalidRow)))
    (a_InvalidText : PySem.W.nsIn K mainGlobals "InvalidText" = some (some (.ref C_InvalidText)))
    (a_Row : PySem.W.nsIn K mainGlobals "Row" = some (some (.ref C_Row)))
    (a_Keep : PySem.W.nsIn K mainGlobals "Keep" = some (some (.ref C_Keep)))
    (a_Tries : PySem.W.nsIn K mainGlobals "Tries" = some (some (.ref C_Tries)))
    (a_Limit : PySem.W.nsIn K mainGlobals "Limit" = some (some (.ref C_Limit)))
    (a_Leave : PySem.W.nsIn K mainGlobals "Leave" = some (some (.ref C_Leave)))
    (a_Soft : PySem.W.nsIn K mainGlobals "Soft" = some (some (.ref C_Soft)))
    (a_Count : PySem.W.nsIn K mainGlobals "Count" = some (some (.ref C_Count)))
    (a_Lend : PySem.W.nsIn K mainGlobals "Lend" = some (some (.ref C_Lend)))
    (z_int : PySem.W.nsIn K mainGlobals "int" = some none)
    (z_abs : PySem.W.nsIn K mainGlobals "abs" = some none)
    (z_len : PySem.W.nsIn K mainGlobals "len" = some none)
    (z_range : PySem.W.nsIn K mainGlobals "range" = some none)
    (z_list : PySem.W.nsIn K mainGlobals "list" = some none)
    (z_tuple : PySem.W.nsIn K mainGlobals "tuple" = some none)
    (z_str : PySem.W.nsIn K mainGlobals "str" = some none)
    (z_max : PySem.W.nsIn K mainGlobals "max" = some none)
    (z_min : PySem.W.nsIn K mainGlobals "min" = some none)
    (z_sorted : PySem.W.nsIn K mainGlobals "sorted" = some none)
    (z_enumerate : PySem.W.nsIn K mainGlobals "enumerate" = some none)
    (z_zip : PySem.W.nsIn K mainGlobals "zip" = some none)
    (z_isinstance : PySem.W.nsIn K mainGlobals "isinstance" = some none)
    (z_bool : PySem.W.nsIn K mainGlobals "bool" = some none)
    (z_any : PySem.W.nsIn K mainGlobals "any" = some none)
    (z_all : PySem.W.nsIn K mainGlobals "all" = some none)
    (z_sum : PySem.W.nsIn K mainGlobals "sum" = some none)
    (cl_Row : Cls K C_Row)
    (cl_Keep : Cls K C_Keep)
    (cl_Tries : Cls K C_Tries)
    (cl_Limit : Cls K C_Limit)
    (cl_Leave : Cls K C_Leave)
    (cl_Soft : Cls K C_Soft)
    (cl_Count : Cls K C_Count)
    (cl_Lend : Cls K C_Lend)
    (oc_n : PySem.W.specialIn K (.builtin "object.__class__") "__get__" = some (some (.builtin "getset_descriptor.__get__")))
    (oc_t : PySem.W.takesIn K (.builtin "object.__class__") = some true)
    (ca_Row : PySem.W.findIn K (.ref C_Row) "__class__" = some (some (.builtin "object.__class__")))
    (cm_Row : PySem.W.mroIn K C_Row (.type "object") = some true)
    (ca_Keep : PySem.W.findIn K (.ref C_Keep) "__class__" = some (some (.builtin "object.__class__")))
    (cm_Keep : PySem.W.mroIn K C_Keep (.type "object") = some true)
    (ca_Tries : PySem.W.findIn K (.ref C_Tries) "__class__" = some (some (.builtin "object.__class__")))
    (cm_Tries : PySem.W.mroIn K C_Tries (.type "object") = some true)
    (ca_Limit : PySem.W.findIn K (.ref C_Limit) "__class__" = some (some (.builtin "object.__class__")))
    (cm_Limit : PySem.W.mroIn K C_Limit (.type "object") = some true)
    (ca_Leave : PySem.W.findIn K (.ref C_Leave) "__class__" = some (some (.builtin "object.__class__")))
    (cm_Leave : PySem.W.mroIn K C_Leave (.type "object") = some true)
    (ca_Soft : PySem.W.findIn K (.ref C_Soft) "__class__" = some (some (.builtin "object.__class__")))
    (cm_Soft : PySem.W.mroIn K C_Soft (.type "object") = some true)
    (ca_Count : PySem.W.findIn K (.ref C_Count) "__class__" = some (some (.builtin "object.__class__")))
    (cm_Count : PySem.W.mroIn K C_Count (.type "object") = some true)
    (ca_Lend : PySem.W.findIn K (.ref C_Lend) "__class__" = some (some (.builtin "object.__class__")))
    (cm_Lend : PySem.W.mroIn K C_Lend (.type "object") = some true)
    (no_many_Row : PySem.W.findIn K (.ref C_Row) "many" = some none)
    (no_many_Keep : PySem.W.findIn K (.ref C_Keep) "many" = some none)
    (no_many_Tries : PySem.W.findIn K (.ref C_Tries) "many" = some none)
    (no_many_Limit : PySem.W.findIn K (.ref C_Limit) "many" = some none)
    (no_many_Leave : PySem.W.findIn K (.ref C_Leave) "many" = some none)
    (no_many_Soft : PySem.W.findIn K (.ref C_Soft) "many" = some none)
    (no_many_Count : PySem.W.findIn K (.ref C_Count) "many" = some none)
    (no_many_Lend : PySem.W.findIn K (.ref C_Lend) "many" = some none)
    (no_on_Row : PySem.W.findIn K (.ref C_Row) "on" = some none)
    (no_on_Keep : PySem.W.findIn K (.ref C_Keep) "on" = some none)
    (no_on_Tries : PySem.W.findIn K (.ref C_Tries) "on" = some none)
    (no_on_Limit : PySem.W.findIn K (.ref C_Limit) "on" = some none)
    (no_on_Leave : PySem.W.findIn K (.ref C_Leave) "on" = some none)
    (no_on_Soft : PySem.W.findIn K (.ref C_Soft) "on" = some none)
    (no_on_Count : PySem.W.findIn K (.ref C_Count) "on" = some none)
    (no_on_Lend : PySem.W.findIn K (.ref C_Lend) "on" = some none)
    (no_life_Row : PySem.W.findIn K (.ref C_Row) "life" = some none)
    (no_life_Keep : PySem.W.findIn K (.ref C_Keep) "life" = some none)
    (no_life_Tries : PySem.W.findIn K (.ref C_Tries) "life" = some none)
    (no_life_Limit : PySem.W.findIn K (.ref C_Limit) "life" = some none)
    (no_life_Leave : PySem.W.findIn K (.ref C_Leave) "life" = some none)
    (no_life_Soft : PySem.W.findIn K (.ref C_Soft) "life" = some none)
    (no_life_Count : PySem.W.findIn K (.ref C_Count) "life" = some none)
    (no_life_Lend : PySem.W.findIn K (.ref C_Lend) "life" = some none)
    (no_what_Row : PySem.W.findIn K (.ref C_Row) "what" = some none)
    (no_what_Keep : PySem.W.findIn K (.ref C_Keep) "what" = some none)
    (no_what_Tries : PySem.W.findIn K (.ref C_Tries) "what" = some none)
    (no_what_Limit : PySem.W.findIn K (.ref C_Limit) "what" = some none)
    (no_what_Leave : PySem.W.findIn K (.ref C_Leave) "what" = some none)
    (no_what_Soft : PySem.W.findIn K (.ref C_Soft) "what" = some none)
    (no_what_Count : PySem.W.findIn K (.ref C_Count) "what" = some none)
    (no_what_Lend : PySem.W.findIn K (.ref C_Lend) "what" = some none)
    (st_Row_bool : PySem.W.subIn K (.ref C_Row) (.type "bool") = some false)
    (st_Keep_bool : PySem.W.subIn K (.ref C_Keep) (.type "bool") = some false)
    (st_Tries_bool : PySem.W.subIn K (.ref C_Tries) (.type "bool") = some false)
    (st_Limit_bool : PySem.W.subIn K (.ref C_Limit) (.type "bool") = some false)
    (st_Leave_bool : PySem.W.subIn K (.ref C_Leave) (.type "bool") = some false)
    (st_Soft_bool : PySem.W.subIn K (.ref C_Soft) (.type "bool") = some false)
    (st_Count_bool : PySem.W.subIn K (.ref C_Count) (.type "bool") = some false)
    (st_Lend_bool : PySem.W.subIn K (.ref C_Lend) (.type "bool") = some false)
    (st_Row_int : PySem.W.subIn K (.ref C_Row) (.type "int") = some false)
    (st_Keep_int : PySem.W.subIn K (.ref C_Keep) (.type "int") = some false)
    (st_Tries_int : PySem.W.subIn K (.ref C_Tries) (.type "int") = some false)
    (st_Limit_int : PySem.W.subIn K (.ref C_Limit) (.type "int") = some false)
    (st_Leave_int : PySem.W.subIn K (.ref C_Leave) (.type "int") = some false)
    (st_Soft_int : PySem.W.subIn K (.ref C_Soft) (.type "int") = some false)
    (st_Count_int : PySem.W.subIn K (.ref C_Count) (.type "int") = some false)
    (st_Lend_int : PySem.W.subIn K (.ref C_Lend) (.type "int") = some false)
    (ic_Row : PySem.W.isClsIn K C_Row = true)
    (tc_Row : PySem.W.typeIn K (.ref C_Row) = some (.type "type"))
    (sb_NoneType_Row : PySem.W.subIn K (.type "NoneType") (.ref C_Row) = some false)
    (sb_bool_Row : PySem.W.subIn K (.type "bool") (.ref C_Row) = some false)
    (sb_int_Row : PySem.W.subIn K (.type "int") (.ref C_Row) = some false)
    (sb_str_Row : PySem.W.subIn K (.type "str") (.ref C_Row) = some false)
    (sb_list_Row : PySem.W.subIn K (.type "list") (.ref C_Row) = some false)
    (sb_tuple_Row : PySem.W.subIn K (.type "tuple") (.ref C_Row) = some false)
    (ss_Row_Row : PySem.W.subIn K (.ref C_Row) (.ref C_Row) = some true)
    (ss_Keep_Row : PySem.W.subIn K (.ref C_Keep) (.ref C_Row) = some true)
    (ss_Tries_Row : PySem.W.subIn K (.ref C_Tries) (.ref C_Row) = some true)
    (ss_Limit_Row : PySem.W.subIn K (.ref C_Limit) (.ref C_Row) = some true)
    (ss_Leave_Row : PySem.W.subIn K (.ref C_Leave) (.ref C_Row) = some true)
    (ss_Soft_Row : PySem.W.subIn K (.ref C_Soft) (.ref C_Row) = some true)
    (ss_Count_Row : PySem.W.subIn K (.ref C_Count) (.ref C_Row) = some true)
    (ss_Lend_Row : PySem.W.subIn K (.ref C_Lend) (.ref C_Row) = some true)
    (z_repr : PySem.W.nsIn K mainGlobals "repr" = some none)
    (g_MOST_TRIES : PySem.W.nsIn K mainGlobals "MOST_TRIES" = some (some (.ref K_MOST_TRIES)))
    (l_MOST_TRIES : K.lookup K_MOST_TRIES = some ⟨.type "tuple", oo1, .seq [.int 1 tk1_0, .int 2 tk1_1, .int 3 tk1_2, .int 4 tk1_3, .int 5 tk1_4, .int 6 tk1_5].toArray on1, os1⟩)
    (g_FAULTS : PySem.W.nsIn K mainGlobals "FAULTS" = some (some (.ref K_FAULTS)))
    (l_FAULTS : K.lookup K_FAULTS = some ⟨.type "tuple", oo2, .seq [.str "fault" tk2_0, .str "all" tk2_1].toArray on2, os2⟩)
    (g_LIVES : PySem.W.nsIn K mainGlobals "LIVES" = some (some (.ref K_LIVES)))
    (l_LIVES : K.lookup K_LIVES = some ⟨.type "tuple", oo3, .seq [.int 0 tk3_0, .int 1 tk3_1, .int 2 tk3_2, .int 3 tk3_3].toArray on3, os3⟩)
    (g_KEPT_ANSWERS : PySem.W.nsIn K mainGlobals "KEPT_ANSWERS" = some (some (.ref K_KEPT_ANSWERS)))
    (l_KEPT_ANSWERS : K.lookup K_KEPT_ANSWERS = some ⟨.type "tuple", oo4, .seq [.str "good" tk4_0, .str "all" tk4_1].toArray on4, os4⟩)
    (g_MOST_ASKED : PySem.W.nsIn K mainGlobals "MOST_ASKED" = some (some (.ref K_MOST_ASKED)))
    (l_MOST_ASKED : K.lookup K_MOST_ASKED = some ⟨.type "tuple", oo5, .seq [.int 1 tk5_0, .int 2 tk5_1, .int 3 tk5_2].toArray on5, os5⟩)
    (mo_Lend : Own.MkO K C_Lend)
    (mo_Count : Own.MkO K C_Count)
    (mo_Leave : Own.MkO K C_Leave)
    (mk_Keep : Mk K C_Keep A_Keep_init)
    (mk_Tries : Mk K C_Tries A_Tries_init)
    (mk_Limit : Mk K C_Limit A_Limit_init)
    (mk_Soft : Mk K C_Soft A_Soft_init)
    (own_Row : Own.OwnC K C_Row A_Row_str A_Row_eq)
    (own_Keep : Own.OwnC K C_Keep A_Row_str A_Row_eq)
    (own_Tries : Own.OwnC K C_Tries A_Row_str A_Row_eq)
    (own_Limit : Own.OwnC K C_Limit A_Row_str A_Row_eq)
    (own_Leave : Own.OwnC K C_Leave A_Row_str A_Row_eq)
    (own_Soft : Own.OwnC K C_Soft A_Row_str A_Row_eq)
    (own_Count : Own.OwnC K C_Count A_Row_str A_Row_eq)
    (own_Lend : Own.OwnC K C_Lend A_Row_str A_Row_eq)
    (nf_Keep_Keep : PySem.W.notFirst K C_Keep (.ref C_Keep) = true)
    (nf_Keep_Tries : PySem.W.notFirst K C_Keep (.ref C_Tries) = true)
    (nf_Keep_Limit : PySem.W.notFirst K C_Keep (.ref C_Limit) = true)
    (nf_Keep_Leave : PySem.W.notFirst K C_Keep (.ref C_Leave) = true)
    (nf_Keep_Soft : PySem.W.notFirst K C_Keep (.ref C_Soft) = true)
    (nf_Keep_Count : PySem.W.notFirst K C_Keep (.ref C_Count) = true)
    (nf_Keep_Lend : PySem.W.notFirst K C_Keep (.ref C_Lend) = true)
    (nf_Tries_Keep : PySem.W.notFirst K C_Tries (.ref C_Keep) = true)
    (nf_Tries_Tries : PySem.W.notFirst K C_Tries (.ref C_Tries) = true)
    (nf_Tries_Limit : PySem.W.notFirst K C_Tries (.ref C_Limit) = true)
    (nf_Tries_Leave : PySem.W.notFirst K C_Tries (.ref C_Leave) = true)
    (nf_Tries_Soft : PySem.W.notFirst K C_Tries (.ref C_Soft) = true)
    (nf_Tries_Count : PySem.W.notFirst K C_Tries (.ref C_Count) = true)
    (nf_Tries_Lend : PySem.W.notFirst K C_Tries (.ref C_Lend) = true)
    (nf_Limit_Keep : PySem.W.notFirst K C_Limit (.ref C_Keep) = true)
    (nf_Limit_Tries : PySem.W.notFirst K C_Limit (.ref C_Tries) = true)
    (nf_Limit_Limit : PySem.W.notFirst K C_Limit (.ref C_Limit) = true)
    (nf_Limit_Leave : PySem.W.notFirst K C_Limit (.ref C_Leave) = true)
    (nf_Limit_Soft : PySem.W.notFirst K C_Limit (.ref C_Soft) = true)
    (nf_Limit_Count : PySem.W.notFirst K C_Limit (.ref C_Count) = true)
    (nf_Limit_Lend : PySem.W.notFirst K C_Limit (.ref C_Lend) = true)
    (nf_Leave_Keep : PySem.W.notFirst K C_Leave (.ref C_Keep) = true)
    (nf_Leave_Tries : PySem.W.notFirst K C_Leave (.ref C_Tries) = true)
    (nf_Leave_Limit : PySem.W.notFirst K C_Leave (.ref C_Limit) = true)
    (nf_Leave_Leave : PySem.W.notFirst K C_Leave (.ref C_Leave) = true)
    (nf_Leave_Soft : PySem.W.notFirst K C_Leave (.ref C_Soft) = true)
    (nf_Leave_Count : PySem.W.notFirst K C_Leave (.ref C_Count) = true)
    (nf_Leave_Lend : PySem.W.notFirst K C_Leave (.ref C_Lend) = true)
    (nf_Soft_Keep : PySem.W.notFirst K C_Soft (.ref C_Keep) = true)
    (nf_Soft_Tries : PySem.W.notFirst K C_Soft (.ref C_Tries) = true)
    (nf_Soft_Limit : PySem.W.notFirst K C_Soft (.ref C_Limit) = true)
    (nf_Soft_Leave : PySem.W.notFirst K C_Soft (.ref C_Leave) = true)
    (nf_Soft_Soft : PySem.W.notFirst K C_Soft (.ref C_Soft) = true)
    (nf_Soft_Count : PySem.W.notFirst K C_Soft (.ref C_Count) = true)
    (nf_Soft_Lend : PySem.W.notFirst K C_Soft (.ref C_Lend) = true)
    (nf_Count_Keep : PySem.W.notFirst K C_Count (.ref C_Keep) = true)
    (nf_Count_Tries : PySem.W.notFirst K C_Count (.ref C_Tries) = true)
    (nf_Count_Limit : PySem.W.notFirst K C_Count (.ref C_Limit) = true)
    (nf_Count_Leave : PySem.W.notFirst K C_Count (.ref C_Leave) = true)
    (nf_Count_Soft : PySem.W.notFirst K C_Count (.ref C_Soft) = true)
    (nf_Count_Count : PySem.W.notFirst K C_Count (.ref C_Count) = true)
    (nf_Count_Lend : PySem.W.notFirst K C_Count (.ref C_Lend) = true)
    (nf_Lend_Keep : PySem.W.notFirst K C_Lend (.ref C_Keep) = true)
    (nf_Lend_Tries : PySem.W.notFirst K C_Lend (.ref C_Tries) = true)
    (nf_Lend_Limit : PySem.W.notFirst K C_Lend (.ref C_Limit) = true)
    (nf_Lend_Leave : PySem.W.notFirst K C_Lend (.ref C_Leave) = true)
    (nf_Lend_Soft : PySem.W.notFirst K C_Lend (.ref C_Soft) = true)
    (nf_Lend_Count : PySem.W.notFirst K C_Lend (.ref C_Count) = true)
    (nf_Lend_Lend : PySem.W.notFirst K C_Lend (.ref C_Lend) = true)
    (mr_Row_str : PySem.W.mroIn K C_Row (.type "str") = some false)
    (mr_Row_tuple : PySem.W.mroIn K C_Row (.type "tuple") = some false)
    (mr_Row_NoneType : PySem.W.mroIn K C_Row (.type "NoneType") = some false)
    (mr_Keep_str : PySem.W.mroIn K C_Keep (.type "str") = some false)
    (mr_Keep_tuple : PySem.W.mroIn K C_Keep (.type "tuple") = some false)
    (mr_Keep_NoneType : PySem.W.mroIn K C_Keep (.type "NoneType") = some false)
    (mr_Tries_str : PySem.W.mroIn K C_Tries (.type "str") = some false)
    (mr_Tries_tuple : PySem.W.mroIn K C_Tries (.type "tuple") = some false)
    (mr_Tries_NoneType : PySem.W.mroIn K C_Tries (.type "NoneType") = some false)
    (mr_Limit_str : PySem.W.mroIn K C_Limit (.type "str") = some false)
    (mr_Limit_tuple : PySem.W.mroIn K C_Limit (.type "tuple") = some false)
    (mr_Limit_NoneType : PySem.W.mroIn K C_Limit (.type "NoneType") = some false)
    (mr_Leave_str : PySem.W.mroIn K C_Leave (.type "str") = some false)
    (mr_Leave_tuple : PySem.W.mroIn K C_Leave (.type "tuple") = some false)
    (mr_Leave_NoneType : PySem.W.mroIn K C_Leave (.type "NoneType") = some false)
    (mr_Soft_str : PySem.W.mroIn K C_Soft (.type "str") = some false)
    (mr_Soft_tuple : PySem.W.mroIn K C_Soft (.type "tuple") = some false)
    (mr_Soft_NoneType : PySem.W.mroIn K C_Soft (.type "NoneType") = some false)
    (mr_Count_str : PySem.W.mroIn K C_Count (.type "str") = some false)
    (mr_Count_tuple : PySem.W.mroIn K C_Count (.type "tuple") = some false)
    (mr_Count_NoneType : PySem.W.mroIn K C_Count (.type "NoneType") = some false)
    (mr_Lend_str : PySem.W.mroIn K C_Lend (.type "str") = some false)
    (mr_Lend_tuple : PySem.W.mroIn K C_Lend (.type "tuple") = some false)
    (mr_Lend_NoneType : PySem.W.mroIn K C_Lend (.type "NoneType") = some false)
    (a_fn_check_argument : PySem.W.nsIn K mainGlobals "check_argument" = some (some (.ref A_check_argument)))
    (F_check_argument : Fun K "check_argument" "check_argument" s_check_argument A_check_argument fd_check_argument)
    (a_fn_is_integer : PySem.W.nsIn K mainGlobals "is_integer" = some (some (.ref A_is_integer)))
    (F_is_integer : Fun K "is_integer" "is_integer" s_is_integer A_is_integer fd_is_integer)
    (a_fn_is_one_of : PySem.W.nsIn K mainGlobals "is_one_of" = some (some (.ref A_is_one_of)))
    (F_is_one_of : Fun K "is_one_of" "is_one_of" s_is_one_of A_is_one_of fd_is_one_of)
    (F_Limit_init : Fun K "__init__" "Limit.__init__" s_Limit_init A_Limit_init fd_Limit_init)
    (F_Soft_init : FunD K "__init__" "Soft.__init__" (defArgs s_Soft_init) (defBody s_Soft_init) (defScope s_Soft_init) [.str "fault"] [] A_Soft_init fd_Soft_init)
    (F_Keep_init : FunD K "__init__" "Keep.__init__" (defArgs s_Keep_init) (defBody s_Keep_init) (defScope s_Keep_init) [.str "good", .non] [] A_Keep_init fd_Keep_init)
    (F_Tries_init : FunD K "__init__" "Tries.__init__" (defArgs s_Tries_init) (defBody s_Tries_init) (defScope s_Tries_init) [.str "fault"] [] A_Tries_init fd_Tries_init)
    (a_fn__law_every : PySem.W.nsIn K mainGlobals "_law_every" = some (some (.ref A_every)))
    (F_every : Fun K "_law_every" "_law_every" s_law_every A_every fd_every)
    (a_fn__law_source : PySem.W.nsIn K mainGlobals "_law_source" = some (some (.ref A_source)))
    (F_source : Fun K "_law_source" "_law_source" s_law_source A_source fd_source)
    (mt_Keep_words : Meth K C_Keep "words" A_Keep_words)
    (F_Keep_words : Fun K "words" "Keep.words" s_Keep_words A_Keep_words fd_Keep_words)
    (mt_Tries_words : Meth K C_Tries "words" A_Tries_words)
    (F_Tries_words : Fun K "words" "Tries.words" s_Tries_words A_Tries_words fd_Tries_words)
    (mt_Limit_words : Meth K C_Limit "words" A_Limit_words)
    (F_Limit_words : Fun K "words" "Limit.words" s_Limit_words A_Limit_words fd_Limit_words)
    (mt_Leave_words : Meth K C_Leave "words" A_Leave_words)
    (F_Leave_words : Fun K "words" "Leave.words" s_Leave_words A_Leave_words fd_Leave_words)
    (mt_Soft_words : Meth K C_Soft "words" A_Soft_words)
    (F_Soft_words : Fun K "words" "Soft.words" s_Soft_words A_Soft_words fd_Soft_words)
    (mt_Count_words : Meth K C_Count "words" A_Count_words)
    (F_Count_words : Fun K "words" "Count.words" s_Count_words A_Count_words fd_Count_words)
    (mt_Lend_words : Meth K C_Lend "words" A_Lend_words)
    (F_Lend_words : Fun K "words" "Lend.words" s_Lend_words A_Lend_words fd_Lend_words)
    (F_Row_str : Fun K "__str__" "Row.__str__" s_Row_str A_Row_str fd_Row_str)
    (F_Row_eq : Fun K "__eq__" "Row.__eq__" s_Row_eq A_Row_eq fd_Row_eq)
    (a_fn__law_parts_right : PySem.W.nsIn K mainGlobals "_law_parts_right" = some (some (.ref A_parts_right)))
    (F_parts_right : Fun K "_law_parts_right" "_law_parts_right" s_law_parts_right A_parts_right fd_parts_right)
    (a_fn__law_draw : PySem.W.nsIn K mainGlobals "_law_draw" = some (some (.ref A_draw)))
    (F_draw : Fun K "_law_draw" "_law_draw" s_law_draw A_draw fd_draw)
    (a_fn__law_pick : PySem.W.nsIn K mainGlobals "_law_pick" = some (some (.ref A_pick)))
    (F_pick : Fun K "_law_pick" "_law_pick" s_law_pick A_pick fd_pick)
    (a_fn__law_row : PySem.W.nsIn K mainGlobals "_law_row" = some (some (.ref A_row)))
    (F_row : Fun K "_law_row" "_law_row" s_law_row A_row fd_row)
    (a_fn__law_mixed : PySem.W.nsIn K mainGlobals "_law_mixed" = some (some (.ref A_mixed)))
    (F_mixed : Fun K "_law_mixed" "_law_mixed" s_law_mixed A_mixed fd_mixed)
    (a_fn__law_rows : PySem.W.nsIn K mainGlobals "_law_rows" = some (some (.ref A_rows)))
    (F_rows : Fun K "_law_rows" "_law_rows" s_law_rows A_rows fd_rows)
    (a_fn__law_row_text : PySem.W.nsIn K mainGlobals "_law_row_text" = some (some (.ref A_row_text)))
    (F_row_text : Fun K "_law_row_text" "_law_row_text" s_law_row_text A_row_text fd_row_text)
    (a_fn_every_row : PySem.W.nsIn K mainGlobals "every_row" = some (some (.ref A_every_row)))
    (F_every_row : Fun K "every_row" "every_row" s_every_row A_every_row fd_every_row)
    (cr_Row_read : ClX.CRead K C_Row (.type "type"))
    (cmt_Row_read : ClX.CMet K C_Row (.type "type") "read" P_Row_read A_Row_read)
    (F_Row_read : Fun K "read" "Row.read" s_Row_read A_Row_read fd_Row_read)
    (a_fn_law : PySem.W.nsIn K mainGlobals "law" = some (some (.ref A_law)))
    (F_law : Fun K "law" "law" s_law A_law fd_law) :
    ∃ fd : FuncData, (∀ (s : Shared) (v : Value), BindsTo s fd ⟨[v], []⟩ [("_law_script", v)]) ∧ ∀ base : Heap, FnG P w K mg base 7 fa fd ["_law_script"] (@SpV ⟨P, w⟩ K 1 (f_law ⟨C_WrapError, C_InvalidRow, C_InvalidText, C_Row, C_Keep, C_Tries, C_Limit, C_Leave, C_Soft, C_Count, C_Lend⟩)) := by
  letI : WW := ⟨P, w⟩
  have e := hfa.symm.trans (mg_of X G a_fn_law)
  cases e
  refine ⟨fd_law, fun s v => ?bnd, fun base => ?_⟩
  case bnd => obtain ⟨_, _, _, _, _, _, _, _, _, rfl, _, _⟩ := F_law.ex; exact .of_eq rfl
  let c : CS := ⟨C_WrapError, C_InvalidRow, C_InvalidText, C_Row, C_Keep, C_Tries, C_Limit, C_Leave, C_Soft, C_Count, C_Lend⟩
  have it_Row : InsTy K C_Row := insTy_of cl_Row ca_Row oc_n oc_t cm_Row
  have it_Keep : InsTy K C_Keep := insTy_of cl_Keep ca_Keep oc_n oc_t cm_Keep
  have it_Tries : InsTy K C_Tries := insTy_of cl_Tries ca_Tries oc_n oc_t cm_Tries
  have it_Limit : InsTy K C_Limit := insTy_of cl_Limit ca_Limit oc_n oc_t cm_Limit
  have it_Leave : InsTy K C_Leave := insTy_of cl_Leave ca_Leave oc_n oc_t cm_Leave
  have it_Soft : InsTy K C_Soft := insTy_of cl_Soft ca_Soft oc_n oc_t cm_Soft
  have it_Count : InsTy K C_Count := insTy_of cl_Count ca_Count oc_n oc_t cm_Count
  have it_Lend : InsTy K C_Lend := insTy_of cl_Lend ca_Lend oc_n oc_t cm_Lend
  have O_many : FldOk K "many" (okA c) := fldOk_of (ma1 ⟨cl_Row, no_many_Row⟩ (ma1 ⟨cl_Keep, no_many_Keep⟩ (ma1 ⟨cl_Tries, no_many_Tries⟩ (ma1 ⟨cl_Limit, no_many_Limit⟩ (ma1 ⟨cl_Leave, no_many_Leave⟩ (ma1 ⟨cl_Soft, no_many_Soft⟩ (ma1 ⟨cl_Count, no_many_Count⟩ (ma1 ⟨cl_Lend, no_many_Lend⟩ ma0))))))))
  have O_on : FldOk K "on" (okA c) := fldOk_of (ma1 ⟨cl_Row, no_on_Row⟩ (ma1 ⟨cl_Keep, no_on_Keep⟩ (ma1 ⟨cl_Tries, no_on_Tries⟩ (ma1 ⟨cl_Limit, no_on_Limit⟩ (ma1 ⟨cl_Leave, no_on_Leave⟩ (ma1 ⟨cl_Soft, no_on_Soft⟩ (ma1 ⟨cl_Count, no_on_Count⟩ (ma1 ⟨cl_Lend, no_on_Lend⟩ ma0))))))))
  have O_life : FldOk K "life" (okA c) := fldOk_of (ma1 ⟨cl_Row, no_life_Row⟩ (ma1 ⟨cl_Keep, no_life_Keep⟩ (ma1 ⟨cl_Tries, no_life_Tries⟩ (ma1 ⟨cl_Limit, no_life_Limit⟩ (ma1 ⟨cl_Leave, no_life_Leave⟩ (ma1 ⟨cl_Soft, no_life_Soft⟩ (ma1 ⟨cl_Count, no_life_Count⟩ (ma1 ⟨cl_Lend, no_life_Lend⟩ ma0))))))))
  have O_what : FldOk K "what" (okA c) := fldOk_of (ma1 ⟨cl_Row, no_what_Row⟩ (ma1 ⟨cl_Keep, no_what_Keep⟩ (ma1 ⟨cl_Tries, no_what_Tries⟩ (ma1 ⟨cl_Limit, no_what_Limit⟩ (ma1 ⟨cl_Leave, no_what_Leave⟩ (ma1 ⟨cl_Soft, no_what_Soft⟩ (ma1 ⟨cl_Count, no_what_Count⟩ (ma1 ⟨cl_Lend, no_what_Lend⟩ ma0))))))))
  have I_bool : CtOk K (.type "bool") (ctB c) := ctB_of (ma1 ⟨kit_tp (by decide +kernel) st_Row_bool, it_Row⟩ (ma1 ⟨kit_tp (by decide +kernel) st_Keep_bool, it_Keep⟩ (ma1 ⟨kit_tp (by decide +kernel) st_Tries_bool, it_Tries⟩ (ma1 ⟨kit_tp (by decide +kernel) st_Limit_bool, it_Limit⟩ (ma1 ⟨kit_tp (by decide +kernel) st_Leave_bool, it_Leave⟩ (ma1 ⟨kit_tp (by decide +kernel) st_Soft_bool, it_Soft⟩ (ma1 ⟨kit_tp (by decide +kernel) st_Count_bool, it_Count⟩ (ma1 ⟨kit_tp (by decide +kernel) st_Lend_bool, it_Lend⟩ ma0))))))))
  have I_int : CtOk K (.type "int") (ctB c) := ctB_of (ma1 ⟨kit_tp (by decide +kernel) st_Row_int, it_Row⟩ (ma1 ⟨kit_tp (by decide +kernel) st_Keep_int, it_Keep⟩ (ma1 ⟨kit_tp (by decide +kernel) st_Tries_int, it_Tries⟩ (ma1 ⟨kit_tp (by decide +kernel) st_Limit_int, it_Limit⟩ (ma1 ⟨kit_tp (by decide +kernel) st_Leave_int, it_Leave⟩ (ma1 ⟨kit_tp (by decide +kernel) st_Soft_int, it_Soft⟩ (ma1 ⟨kit_tp (by decide +kernel) st_Count_int, it_Count⟩ (ma1 ⟨kit_tp (by decide +kernel) st_Lend_int, it_Lend⟩ ma0))))))))
  have I_Row : IsT K [.ref c.Row] (tyTab (fun _ => false) (ct_Row c)) := isT_own ic_Row tc_Row sb_NoneType_Row sb_bool_Row sb_int_Row sb_str_Row sb_list_Row sb_tuple_Row (ct_of (ma1 ⟨kit_own ic_Row tc_Row ss_Row_Row (.inr rfl), it_Row⟩ (ma1 ⟨kit_own ic_Row tc_Row ss_Keep_Row (.inr rfl), it_Keep⟩ (ma1 ⟨kit_own ic_Row tc_Row ss_Tries_Row (.inr rfl), it_Tries⟩ (ma1 ⟨kit_own ic_Row tc_Row ss_Limit_Row (.inr rfl), it_Limit⟩ (ma1 ⟨kit_own ic_Row tc_Row ss_Leave_Row (.inr rfl), it_Leave⟩ (ma1 ⟨kit_own ic_Row tc_Row ss_Soft_Row (.inr rfl), it_Soft⟩ (ma1 ⟨kit_own ic_Row tc_Row ss_Count_Row (.inr rfl), it_Count⟩ (ma1 ⟨kit_own ic_Row tc_Row ss_Lend_Row (.inr rfl), it_Lend⟩ ma0)))))))) ma0)
  have BR_repr : mg "repr" = none := mg_none_of X G z_repr
  have M_Lend : mg "Lend" = some (.ref C_Lend) := mg_of X G a_Lend
  have M_Count : mg "Count" = some (.ref C_Count) := mg_of X G a_Count
  have M_Leave : mg "Leave" = some (.ref C_Leave) := mg_of X G a_Leave
  have M_Row : mg "Row" = some (.ref C_Row) := mg_of X G a_Row
  have M_Soft : mg "Soft" = some (.ref C_Soft) := mg_of X G a_Soft
  have M_Tries : mg "Tries" = some (.ref C_Tries) := mg_of X G a_Tries
  have M_Keep : mg "Keep" = some (.ref C_Keep) := mg_of X G a_Keep
  have G_MOST_TRIES : GV K mg "MOST_TRIES" (.tup [(.int 1), (.int 2), (.int 3), (.int 4), (.int 5), (.int 6)]) := ⟨.ref K_MOST_TRIES, .ref K_MOST_TRIES, mg_of X G g_MOST_TRIES, rfl, (fun F => .tup (KTup.of (xs := [.int 1, .int 2, .int 3, .int 4, .int 5, .int 6]) l_MOST_TRIES (by simp) (.cons ⟨_, rfl⟩ (.cons ⟨_, rfl⟩ (.cons ⟨_, rfl⟩ (.cons ⟨_, rfl⟩ (.cons ⟨_, rfl⟩ (.cons ⟨_, rfl⟩ .nil)))))) F) (.cons (.int _) (.cons (.int _) (.cons (.int _) (.cons (.int _) (.cons (.int _) (.cons (.int _) .nil)))))))⟩
  have G_FAULTS : GV K mg "FAULTS" (.tup [(.str "fault"), (.str "all")]) := ⟨.ref K_FAULTS, .ref K_FAULTS, mg_of X G g_FAULTS, rfl, (fun F => .tup (KTup.of (xs := [.str "fault", .str "all"]) l_FAULTS (by simp) (.cons ⟨_, rfl⟩ (.cons ⟨_, rfl⟩ .nil)) F) (.cons (.str _) (.cons (.str _) .nil)))⟩
  have G_LIVES : GV K mg "LIVES" (.tup [(.int 0), (.int 1), (.int 2), (.int 3)]) := ⟨.ref K_LIVES, .ref K_LIVES, mg_of X G g_LIVES, rfl, (fun F => .tup (KTup.of (xs := [.int 0, .int 1, .int 2, .int 3]) l_LIVES (by simp) (.cons ⟨_, rfl⟩ (.cons ⟨_, rfl⟩ (.cons ⟨_, rfl⟩ (.cons ⟨_, rfl⟩ .nil)))) F) (.cons (.int _) (.cons (.int _) (.cons (.int _) (.cons (.int _) .nil)))))⟩
  have G_KEPT_ANSWERS : GV K mg "KEPT_ANSWERS" (.tup [(.str "good"), (.str "all")]) := ⟨.ref K_KEPT_ANSWERS, .ref K_KEPT_ANSWERS, mg_of X G g_KEPT_ANSWERS, rfl, (fun F => .tup (KTup.of (xs := [.str "good", .str "all"]) l_KEPT_ANSWERS (by simp) (.cons ⟨_, rfl⟩ (.cons ⟨_, rfl⟩ .nil)) F) (.cons (.str _) (.cons (.str _) .nil)))⟩
  have G_MOST_ASKED : GV K mg "MOST_ASKED" (.tup [(.int 1), (.int 2), (.int 3)]) := ⟨.ref K_MOST_ASKED, .ref K_MOST_ASKED, mg_of X G g_MOST_ASKED, rfl, (fun F => .tup (KTup.of (xs := [.int 1, .int 2, .int 3]) l_MOST_ASKED (by simp) (.cons ⟨_, rfl⟩ (.cons ⟨_, rfl⟩ (.cons ⟨_, rfl⟩ .nil))) F) (.cons (.int _) (.cons (.int _) (.cons (.int _) .nil))))⟩
  have MO_Lend : Own.MkO K c.Lend := mo_Lend
  have MO_Count : Own.MkO K c.Count := mo_Count
  have MO_Leave : Own.MkO K c.Leave := mo_Leave
  have B : Bn mg := ⟨mg_none_of X G z_int, mg_none_of X G z_abs, mg_none_of X G z_len, mg_none_of X G z_range, mg_none_of X G z_list, mg_none_of X G z_tuple, mg_none_of X G z_str, mg_none_of X G z_max, mg_none_of X G z_min, mg_none_of X G z_sorted, mg_none_of X G z_enumerate, mg_none_of X G z_zip, mg_none_of X G z_isinstance, mg_none_of X G z_bool, mg_none_of X G z_any, mg_none_of X G z_all, mg_none_of X G z_sum⟩
  have b_check_argument : Binds K fd_check_argument ["word", "is_right"] [] := F_check_argument.binds (ps := ["word", "is_right"]) fun _ _ _ _ _ _ us hl => match us, hl with | [_, _], _ => rfl
  have g_check_argument := okv_check_argument (P := P) (w := w) (base := base) (c := c) F_check_argument B
  have D_check_argument : DV P w K mg base "check_argument" 1 2 (f_check_argument c) := ⟨_, _, _, mg_of X G a_fn_check_argument, F_check_argument.kp, g_check_argument, b_check_argument⟩
  have b_is_integer : Binds K fd_is_integer ["value"] [] := F_is_integer.binds (ps := ["value"]) fun _ _ _ _ _ _ us hl => match us, hl with | [_], _ => rfl
  have g_is_integer := okv_is_integer (P := P) (w := w) (base := base) (c := c) F_is_integer B I_bool I_int
  have D_is_integer : DV P w K mg base "is_integer" 1 1 (f_is_integer c) := ⟨_, _, _, mg_of X G a_fn_is_integer, F_is_integer.kp, g_is_integer, b_is_integer⟩
  have b_is_one_of : Binds K fd_is_one_of ["value", "numbers"] [] := F_is_one_of.binds (ps := ["value", "numbers"]) fun _ _ _ _ _ _ us hl => match us, hl with | [_, _], _ => rfl
  have g_is_one_of := okv_is_one_of (P := P) (w := w) (base := base) (c := c) F_is_one_of B D_is_integer
  have D_is_one_of : DV P w K mg base "is_one_of" 2 2 (f_is_one_of c) := ⟨_, _, _, mg_of X G a_fn_is_one_of, F_is_one_of.kp, g_is_one_of, b_is_one_of⟩
  have b_Limit_init : Binds K fd_Limit_init ["self", "many"] [] := F_Limit_init.binds (ps := ["self", "many"]) fun _ _ _ _ _ _ us hl => match us, hl with | [_, _], _ => rfl
  have g_Limit_init := okv_Limit_init (P := P) (w := w) (base := base) (c := c) F_Limit_init B D_check_argument D_is_one_of O_many G_MOST_TRIES
  obtain ⟨e0_Soft_init, v0_Soft_init, b_Soft_init⟩ := F_Soft_init.binds1 (ps := ["self", "on"]) 2 1 (List.cons_ne_nil _ _) rfl fun T kV doc pm an cdv ct us its h1 h2 => match us, its, h1, h2 with | [_, _], [_], _, _ => ⟨_, rfl, rfl⟩
  cases v0_Soft_init
  have g_Soft_init := okv_Soft_init (P := P) (w := w) (base := base) (c := c) F_Soft_init B D_check_argument O_on G_FAULTS
  obtain ⟨e0_Keep_init, v0_Keep_init, b_Keep_init⟩ := F_Keep_init.binds1 (ps := ["self", "what", "life"]) 3 2 (List.cons_ne_nil _ _) rfl fun T kV doc pm an cdv ct us its h1 h2 => match us, its, h1, h2 with | [_, _, _], [_, _], _, _ => ⟨_, rfl, rfl⟩
  cases v0_Keep_init
  have g_Keep_init := okv_Keep_init (P := P) (w := w) (base := base) (c := c) F_Keep_init B D_check_argument D_is_one_of O_life O_what G_LIVES G_KEPT_ANSWERS
  obtain ⟨e0_Tries_init, v0_Tries_init, b_Tries_init⟩ := F_Tries_init.binds1 (ps := ["self", "many", "on"]) 3 1 (List.cons_ne_nil _ _) rfl fun T kV doc pm an cdv ct us its h1 h2 => match us, its, h1, h2 with | [_, _, _], [_], _, _ => ⟨_, rfl, rfl⟩
  cases v0_Tries_init
  have g_Tries_init := okv_Tries_init (P := P) (w := w) (base := base) (c := c) F_Tries_init B D_check_argument D_is_one_of O_on O_many G_FAULTS G_MOST_ASKED
  have MI_Keep : MI P w K mg base 3 3 "Keep" c.Keep (f_Keep_init c) := ⟨_, _, _, mk_Keep, g_Keep_init, b_Keep_init, mg_of X G a_Keep⟩
  have MI_Tries : MI P w K mg base 3 3 "Tries" c.Tries (f_Tries_init c) := ⟨_, _, _, mk_Tries, g_Tries_init, b_Tries_init, mg_of X G a_Tries⟩
  have MI_Soft : MI P w K mg base 2 2 "Soft" c.Soft (f_Soft_init c) := ⟨_, _, _, mk_Soft, g_Soft_init, b_Soft_init, mg_of X G a_Soft⟩
  have MI_Limit : MI P w K mg base 3 2 "Limit" c.Limit (f_Limit_init c) := ⟨_, _, _, mk_Limit, g_Limit_init, b_Limit_init, mg_of X G a_Limit⟩
  have b_every : Binds K fd_every [] [] := F_every.binds (ps := []) fun _ _ _ _ _ _ us hl => match us, hl with | [], _ => rfl
  have g_every := okv_every (P := P) (w := w) (base := base) (c := c) F_every B MI_Keep MI_Tries MI_Soft MI_Limit MO_Lend M_Lend MO_Count M_Count MO_Leave M_Leave
  have D_every : DV P w K mg base "_law_every" 5 0 (f_every c) := ⟨_, _, _, mg_of X G a_fn__law_every, F_every.kp, g_every, b_every⟩
  have b_source : Binds K fd_source ["_law_script", "_law_base"] [] := F_source.binds (ps := ["_law_script", "_law_base"]) fun _ _ _ _ _ _ us hl => match us, hl with | [_, _], _ => rfl
  have g_source := okv_source (P := P) (w := w) (base := base) (c := c) F_source B
  have D_source : DV P w K mg base "_law_source" 1 2 (f_source c) := ⟨_, _, _, mg_of X G a_fn__law_source, F_source.kp, g_source, b_source⟩
  have b_Keep_words : Binds K fd_Keep_words ["self"] [] := F_Keep_words.binds (ps := ["self"]) fun _ _ _ _ _ _ us hl => match us, hl with | [_], _ => rfl
  have g_Keep_words := okv_Keep_words (P := P) (w := w) (base := base) (c := c) F_Keep_words B O_what O_life
  have b_Tries_words : Binds K fd_Tries_words ["self"] [] := F_Tries_words.binds (ps := ["self"]) fun _ _ _ _ _ _ us hl => match us, hl with | [_], _ => rfl
  have g_Tries_words := okv_Tries_words (P := P) (w := w) (base := base) (c := c) F_Tries_words B O_on O_many
  have b_Limit_words : Binds K fd_Limit_words ["self"] [] := F_Limit_words.binds (ps := ["self"]) fun _ _ _ _ _ _ us hl => match us, hl with | [_], _ => rfl
  have g_Limit_words := okv_Limit_words (P := P) (w := w) (base := base) (c := c) F_Limit_words B O_many
  have b_Leave_words : Binds K fd_Leave_words ["self"] [] := F_Leave_words.binds (ps := ["self"]) fun _ _ _ _ _ _ us hl => match us, hl with | [_], _ => rfl
  have g_Leave_words := okv_Leave_words (P := P) (w := w) (base := base) (c := c) F_Leave_words B
  have b_Soft_words : Binds K fd_Soft_words ["self"] [] := F_Soft_words.binds (ps := ["self"]) fun _ _ _ _ _ _ us hl => match us, hl with | [_], _ => rfl
  have g_Soft_words := okv_Soft_words (P := P) (w := w) (base := base) (c := c) F_Soft_words B O_on
  have b_Count_words : Binds K fd_Count_words ["self"] [] := F_Count_words.binds (ps := ["self"]) fun _ _ _ _ _ _ us hl => match us, hl with | [_], _ => rfl
  have g_Count_words := okv_Count_words (P := P) (w := w) (base := base) (c := c) F_Count_words B
  have b_Lend_words : Binds K fd_Lend_words ["self"] [] := F_Lend_words.binds (ps := ["self"]) fun _ _ _ _ _ _ us hl => match us, hl with | [_], _ => rfl
  have g_Lend_words := okv_Lend_words (P := P) (w := w) (base := base) (c := c) F_Lend_words B
  have T_words : ∀ C vf, tb_words c C = some vf → MVd P w K mg base 1 "words" 1 C vf := (tb1 ⟨cl_Keep, _, _, _, _, by decide, mt_Keep_words, g_Keep_words, b_Keep_words⟩ (tb1 ⟨cl_Tries, _, _, _, _, by decide, mt_Tries_words, g_Tries_words, b_Tries_words⟩ (tb1 ⟨cl_Limit, _, _, _, _, by decide, mt_Limit_words, g_Limit_words, b_Limit_words⟩ (tb1 ⟨cl_Leave, _, _, _, _, by decide, mt_Leave_words, g_Leave_words, b_Leave_words⟩ (tb1 ⟨cl_Soft, _, _, _, _, by decide, mt_Soft_words, g_Soft_words, b_Soft_words⟩ (tb1 ⟨cl_Count, _, _, _, _, by decide, mt_Count_words, g_Count_words, b_Count_words⟩ (tb1 ⟨cl_Lend, _, _, _, _, by decide, mt_Lend_words, g_Lend_words, b_Lend_words⟩ tb0)))))))
  have b_Row_str : Binds K fd_Row_str ["self"] [] := F_Row_str.binds (ps := ["self"]) fun _ _ _ _ _ _ us hl => match us, hl with | [_], _ => rfl
  have g_Row_str := okv_Row_str (P := P) (w := w) (base := base) (c := c) F_Row_str B T_words
  let S_Row : DM P w K mg base 2 1 (f_Row_str c) := ⟨A_Row_str, _, _, g_Row_str, b_Row_str⟩
  have W_Row : ∀ C, ok_Row c C = true → ∃ ge, Own.OwnC K C A_Row_str ge := own_of (P := P) (w := w) (mg := mg) (base := base) (ma1 ⟨_, own_Row⟩ (ma1 ⟨_, own_Keep⟩ (ma1 ⟨_, own_Tries⟩ (ma1 ⟨_, own_Limit⟩ (ma1 ⟨_, own_Leave⟩ (ma1 ⟨_, own_Soft⟩ (ma1 ⟨_, own_Count⟩ (ma1 ⟨_, own_Lend⟩ ma0))))))))
  have b_Row_eq : Binds K fd_Row_eq ["self", "other"] [] := F_Row_eq.binds (ps := ["self", "other"]) fun _ _ _ _ _ _ us hl => match us, hl with | [_, _], _ => rfl
  have g_Row_eq := okv_Row_eq (P := P) (w := w) (base := base) (c := c) F_Row_eq B S_Row W_Row I_Row M_Row
  have b_parts_right : Binds K fd_parts_right [] [] := F_parts_right.binds (ps := []) fun _ _ _ _ _ _ us hl => match us, hl with | [], _ => rfl
  have g_parts_right := okv_parts_right (P := P) (w := w) (base := base) (c := c) F_parts_right B O_on MI_Soft O_life MI_Keep O_what BR_repr O_many MI_Limit MI_Tries
  have D_parts_right : DG P w K mg base "_law_parts_right" 5 0 (f_parts_right c) := ⟨_, _, _, mg_of X G a_fn__law_parts_right, F_parts_right.kp, g_parts_right, b_parts_right⟩
  have b_draw : Binds K fd_draw ["_law_deal", "_law_wide"] [] := F_draw.binds (ps := ["_law_deal", "_law_wide"]) fun _ _ _ _ _ _ us hl => match us, hl with | [_, _], _ => rfl
  have g_draw := okv_draw (P := P) (w := w) (base := base) (c := c) F_draw B
  have D_draw : DV P w K mg base "_law_draw" 1 2 (f_draw c) := ⟨_, _, _, mg_of X G a_fn__law_draw, F_draw.kp, g_draw, b_draw⟩
  have b_pick : Binds K fd_pick ["_law_deal", "_law_some"] [] := F_pick.binds (ps := ["_law_deal", "_law_some"]) fun _ _ _ _ _ _ us hl => match us, hl with | [_, _], _ => rfl
  have g_pick := okv_pick (P := P) (w := w) (base := base) (c := c) F_pick B D_draw
  have D_pick : DV P w K mg base "_law_pick" 2 2 (f_pick c) := ⟨_, _, _, mg_of X G a_fn__law_pick, F_pick.kp, g_pick, b_pick⟩
  have b_row : Binds K fd_row ["_law_deal", "_law_sort"] [] := F_row.binds (ps := ["_law_deal", "_law_sort"]) fun _ _ _ _ _ _ us hl => match us, hl with | [_, _], _ => rfl
  have g_row := okv_row (P := P) (w := w) (base := base) (c := c) F_row B D_pick D_draw
  have D_row : DV P w K mg base "_law_row" 3 2 (f_row c) := ⟨_, _, _, mg_of X G a_fn__law_row, F_row.kp, g_row, b_row⟩
  have b_mixed : Binds K fd_mixed ["_law_deal", "_law_some"] [] := F_mixed.binds (ps := ["_law_deal", "_law_some"]) fun _ _ _ _ _ _ us hl => match us, hl with | [_, _], _ => rfl
  have g_mixed := okv_mixed (P := P) (w := w) (base := base) (c := c) F_mixed B D_draw
  have D_mixed : DV P w K mg base "_law_mixed" 2 2 (f_mixed c) := ⟨_, _, _, mg_of X G a_fn__law_mixed, F_mixed.kp, g_mixed, b_mixed⟩
  have b_rows : Binds K fd_rows ["_law_deal", "_law_amount"] [] := F_rows.binds (ps := ["_law_deal", "_law_amount"]) fun _ _ _ _ _ _ us hl => match us, hl with | [_, _], _ => rfl
  have g_rows := okv_rows (P := P) (w := w) (base := base) (c := c) F_rows B D_mixed D_row
  have D_rows : DV P w K mg base "_law_rows" 4 2 (f_rows c) := ⟨_, _, _, mg_of X G a_fn__law_rows, F_rows.kp, g_rows, b_rows⟩
  have b_row_text : Binds K fd_row_text ["_law_row_here"] [] := F_row_text.binds (ps := ["_law_row_here"]) fun _ _ _ _ _ _ us hl => match us, hl with | [_], _ => rfl
  have g_row_text := okv_row_text (P := P) (w := w) (base := base) (c := c) F_row_text B
  have D_row_text : DV P w K mg base "_law_row_text" 1 1 (f_row_text c) := ⟨_, _, _, mg_of X G a_fn__law_row_text, F_row_text.kp, g_row_text, b_row_text⟩
  have b_every_row : Binds K fd_every_row [] [] := F_every_row.binds (ps := []) fun _ _ _ _ _ _ us hl => match us, hl with | [], _ => rfl
  have g_every_row := okv_every_row (P := P) (w := w) (base := base) (c := c) F_every_row B MO_Lend M_Lend MO_Count M_Count MO_Leave M_Leave G_FAULTS MI_Soft G_MOST_TRIES MI_Limit G_MOST_ASKED MI_Tries G_KEPT_ANSWERS G_LIVES MI_Keep
  have D_every_row : DV P w K mg base "every_row" 5 0 (f_every_row c) := ⟨_, _, _, mg_of X G a_fn_every_row, F_every_row.kp, g_every_row, b_every_row⟩
  have b_Row_read : Binds K fd_Row_read ["cls", "text"] [] := F_Row_read.binds (ps := ["cls", "text"]) fun _ _ _ _ _ _ us hl => match us, hl with | [_, _], _ => rfl
  have g_Row_read := okv_Row_read (P := P) (w := w) (base := base) (c := c) F_Row_read B D_every_row S_Row W_Row
  have C_Row_read : CM P w K mg base 6 2 "read" c.Row (f_Row_read c) := ⟨_, _, _, _, _, cr_Row_read, cmt_Row_read, g_Row_read, b_Row_read⟩
  obtain ⟨e_MD_Soft_1, v_MD_Soft_1, b_MD_Soft_1⟩ := F_Soft_init.binds1 (ps := ["self", "on"]) 1 0 (List.cons_ne_nil _ _) rfl fun T kV doc pm an cdv ct us its h1 h2 => match us, its, h1, h2 with | [_], [_], _, _ => ⟨_, rfl, rfl⟩
  have MD_Soft_1 : MD P w K mg base 2 2 c.Soft (f_Soft_init c) [(.str "fault")] := ⟨_, _, _, _, _, mk_Soft, g_Soft_init, b_MD_Soft_1, v_MD_Soft_1, fun F => (.cons (.str _) .nil)⟩
  let Q_Row : DM P w K mg base 5 2 (f_Row_eq c) := ⟨A_Row_eq, _, _, g_Row_eq, b_Row_eq⟩
  have WQ_Row : EqOk K A_Row_eq (okq_Row c) := eqOk_of (L := [c.Keep, c.Tries, c.Limit, c.Leave, c.Soft, c.Count, c.Lend]) (fun C y e => okq_of e) (ma1 ⟨_, own_Keep⟩ (ma1 ⟨_, own_Tries⟩ (ma1 ⟨_, own_Limit⟩ (ma1 ⟨_, own_Leave⟩ (ma1 ⟨_, own_Soft⟩ (ma1 ⟨_, own_Count⟩ (ma1 ⟨_, own_Lend⟩ ma0))))))) (ma1 (ma1 nf_Keep_Keep (ma1 nf_Keep_Tries (ma1 nf_Keep_Limit (ma1 nf_Keep_Leave (ma1 nf_Keep_Soft (ma1 nf_Keep_Count (ma1 nf_Keep_Lend ma0))))))) (ma1 (ma1 nf_Tries_Keep (ma1 nf_Tries_Tries (ma1 nf_Tries_Limit (ma1 nf_Tries_Leave (ma1 nf_Tries_Soft (ma1 nf_Tries_Count (ma1 nf_Tries_Lend ma0))))))) (ma1 (ma1 nf_Limit_Keep (ma1 nf_Limit_Tries (ma1 nf_Limit_Limit (ma1 nf_Limit_Leave (ma1 nf_Limit_Soft (ma1 nf_Limit_Count (ma1 nf_Limit_Lend ma0))))))) (ma1 (ma1 nf_Leave_Keep (ma1 nf_Leave_Tries (ma1 nf_Leave_Limit (ma1 nf_Leave_Leave (ma1 nf_Leave_Soft (ma1 nf_Leave_Count (ma1 nf_Leave_Lend ma0))))))) (ma1 (ma1 nf_Soft_Keep (ma1 nf_Soft_Tries (ma1 nf_Soft_Limit (ma1 nf_Soft_Leave (ma1 nf_Soft_Soft (ma1 nf_Soft_Count (ma1 nf_Soft_Lend ma0))))))) (ma1 (ma1 nf_Count_Keep (ma1 nf_Count_Tries (ma1 nf_Count_Limit (ma1 nf_Count_Leave (ma1 nf_Count_Soft (ma1 nf_Count_Count (ma1 nf_Count_Lend ma0))))))) (ma1 (ma1 nf_Lend_Keep (ma1 nf_Lend_Tries (ma1 nf_Lend_Limit (ma1 nf_Lend_Leave (ma1 nf_Lend_Soft (ma1 nf_Lend_Count (ma1 nf_Lend_Lend ma0))))))) ma0))))))) (ma1 it_Keep (ma1 it_Tries (ma1 it_Limit (ma1 it_Leave (ma1 it_Soft (ma1 it_Count (ma1 it_Lend ma0)))))))
  obtain ⟨e_MD_Tries_1, v_MD_Tries_1, b_MD_Tries_1⟩ := F_Tries_init.binds1 (ps := ["self", "many", "on"]) 2 0 (List.cons_ne_nil _ _) rfl fun T kV doc pm an cdv ct us its h1 h2 => match us, its, h1, h2 with | [_, _], [_], _, _ => ⟨_, rfl, rfl⟩
  have MD_Tries_1 : MD P w K mg base 3 3 c.Tries (f_Tries_init c) [(.str "fault")] := ⟨_, _, _, _, _, mk_Tries, g_Tries_init, b_MD_Tries_1, v_MD_Tries_1, fun F => (.cons (.str _) .nil)⟩
  obtain ⟨e_MD_Keep_1, v_MD_Keep_1, b_MD_Keep_1⟩ := F_Keep_init.binds1 (ps := ["self", "what", "life"]) 2 1 (List.cons_ne_nil _ _) rfl fun T kV doc pm an cdv ct us its h1 h2 => match us, its, h1, h2 with | [_, _], [_, _], _, _ => ⟨_, rfl, rfl⟩
  have MD_Keep_1 : MD P w K mg base 3 3 c.Keep (f_Keep_init c) [.non] := ⟨_, _, _, _, _, mk_Keep, g_Keep_init, b_MD_Keep_1, v_MD_Keep_1, fun F => (.cons .non .nil)⟩
  obtain ⟨e_MD_Keep_2, v_MD_Keep_2, b_MD_Keep_2⟩ := F_Keep_init.binds1 (ps := ["self", "what", "life"]) 1 0 (List.cons_ne_nil _ _) rfl fun T kV doc pm an cdv ct us its h1 h2 => match us, its, h1, h2 with | [_], [_, _], _, _ => ⟨_, rfl, rfl⟩
  have MD_Keep_2 : MD P w K mg base 3 3 c.Keep (f_Keep_init c) [(.str "good"), .non] := ⟨_, _, _, _, _, mk_Keep, g_Keep_init, b_MD_Keep_2, v_MD_Keep_2, fun F => (.cons (.str _) (.cons .non .nil))⟩
  have IO_Row : InOk K A_Row_eq (ok_Row c) := fun C e => (show ∀ C ∈ [c.Row, c.Keep, c.Tries, c.Limit, c.Leave, c.Soft, c.Count, c.Lend], (∃ gs, Own.OwnC K C gs A_Row_eq) ∧ PySem.W.mroIn K C (.type "str") = some false ∧ PySem.W.mroIn K C (.type "tuple") = some false ∧ PySem.W.mroIn K C (.type "NoneType") = some false from (ma1 ⟨⟨_, own_Row⟩, mr_Row_str, mr_Row_tuple, mr_Row_NoneType⟩ (ma1 ⟨⟨_, own_Keep⟩, mr_Keep_str, mr_Keep_tuple, mr_Keep_NoneType⟩ (ma1 ⟨⟨_, own_Tries⟩, mr_Tries_str, mr_Tries_tuple, mr_Tries_NoneType⟩ (ma1 ⟨⟨_, own_Limit⟩, mr_Limit_str, mr_Limit_tuple, mr_Limit_NoneType⟩ (ma1 ⟨⟨_, own_Leave⟩, mr_Leave_str, mr_Leave_tuple, mr_Leave_NoneType⟩ (ma1 ⟨⟨_, own_Soft⟩, mr_Soft_str, mr_Soft_tuple, mr_Soft_NoneType⟩ (ma1 ⟨⟨_, own_Count⟩, mr_Count_str, mr_Count_tuple, mr_Count_NoneType⟩ (ma1 ⟨⟨_, own_Lend⟩, mr_Lend_str, mr_Lend_tuple, mr_Lend_NoneType⟩ ma0))))))))) C (of_decide_eq_true e)
  have b_law : Binds K fd_law ["_law_script"] [] := F_law.binds (ps := ["_law_script"]) fun _ _ _ _ _ _ us hl => match us, hl with | [_], _ => rfl
  have g_law := okv_law (P := P) (w := w) (base := base) (c := c) F_law B D_row_text D_rows D_source D_parts_right D_every S_Row W_Row C_Row_read M_Row MD_Soft_1 M_Soft MI_Soft Q_Row WQ_Row MD_Tries_1 M_Tries MI_Tries MD_Keep_1 M_Keep MI_Keep MD_Keep_2 IO_Row I_Row
  have D_law : DG P w K mg base "law" 7 1 (f_law c) := ⟨_, _, _, mg_of X G a_fn_law, F_law.kp, g_law, b_law⟩
  exact g_law
end Vw
end
section
namespace Vw
open PySem PySem.Spec PyProof.Rows L2 Own Vs
def c0 : CS := { WrapError := 24, InvalidRow := 44, InvalidText := 63, Row := 118, Keep := 147, Tries := 174, Limit := 200, Leave := 219, Soft := 246, Count := 265, Lend := 284 }
theorem f_draw_eq : f_draw c0 = vDef 4 (bDrawG "mixed" 30671 59 64) := rfl
theorem f_pick_eq : f_pick c0 = vDef 2 (bPickG (f_draw c0)) := rfl
theorem f_mixed_eq : f_mixed c0 = vDef 5 (bMixF (f_draw c0)) := rfl
theorem f_source_eq : f_source c0 = vDef 5 (bSrcG "mixed" 62 73939133 67 30671 2147483423 31) := rfl
theorem f_row_eq : f_row c0 = vDef 2 (bRowG (f_pick c0) (f_draw c0)) := rfl
theorem f_rows_eq : f_rows c0 = vDef 4 (bRowsG (f_mixed c0) (f_row c0)) := rfl
def outL (c : CS) : VS := (vSeq (vIf (vOr (vTest (vBin dNe (vB (gStrO (ok_Row c) (f_Row_str c)) (vCons (vVar 5) vNil)) (vM1 gJoin (vC (.str " ")) (vVar 6)))) (vOr (vNot (vTest (vIsi (tyTab (fun _ => false) (ct_Row c)) (vVar 5)))) (vTest (vBin (gEqO (okq_Row c) (f_Row_eq c) not) (vVar 5) (vCMeth c.Row (f_Row_read c) (vCons (vM1 gJoin (vC (.str " ")) (vVar 6)) vNil)))))) (vRet (vC (.bl false))) vNext)
    (vSeq (vIf (vOr (vTest (vBin (gInO (ok_Row c) (f_Row_eq c)) (vVar 5) (vTup (vCons (vM1 gJoin (vC (.str " ")) (vVar 6)) (vCons (vB gTupOf (vCons (vVar 6) vNil)) (vCons (vC .non) vNil)))))) (vTest (vBin (gEqO (okq_Row c) (f_Row_eq c) not) (vVar 5) (vVar 5)))) (vRet (vC (.bl false))) vNext)
    (vFor (vEnum (vCons (vVar 1) vNil)) (vgTup [(vgName 7), (vgTup [(vgName 8), (vgName 9)])]) (vIf (vOr (vTest (vBin dNe (vBin (gEqO (okq_Row c) (f_Row_eq c) id) (vVar 5) (vVar 8)) (vBin dEq (vVar 4) (vVar 7)))) (vTest (vBin dNe (vBin (gEqO (okq_Row c) (f_Row_eq c) not) (vVar 5) (vVar 8)) (vBin dNe (vVar 4) (vVar 7))))) (vRet (vC (.bl false))) vNext))))
def turnL (c : CS) : VS := (vSeq (vSet 5 (vBin gIx (vCall (f_rows c) (vCons (vVar 2) (vCons (vC (.int 1)) vNil))) (vC (.int 0))))
    (vIf (vTest (vBin dNe (vB (gStrO (ok_Row c) (f_Row_str c)) (vCons (vCMeth c.Row (f_Row_read c) (vCons (vCall (f_row_text c) (vCons (vVar 5) vNil)) vNil)) vNil)) (vCall (f_row_text c) (vCons (vVar 5) vNil)))) (vRet (vC (.bl false))) vNext))
theorem b_law_eq : b_law c0 = (vSeq (vSet 1 (vCall (f_every c0) vNil)) (vSeq (vFor (vEnum (vCons (vVar 1) vNil)) (vgTup [(vgName 4), (vgTup [(vgName 5), (vgName 6)])]) (outL c0)) (vSeq (vIf (vOr (vTest (vBin (gEqO (okq_Row c0) (f_Row_eq c0) not) (vInsD (vMakeD c0.Keep (f_Keep_init c0) [(.str "good"), .non] vNil)) (vInsD (vMake c0.Keep (f_Keep_init c0) (vCons (vC (.str "good")) (vCons (vC .non) vNil)))))) (vOr (vTest (vBin (gEqO (okq_Row c0) (f_Row_eq c0) not) (vInsD (vMakeD c0.Keep (f_Keep_init c0) [.non] (vCons (vC (.str "all")) vNil))) (vInsD (vMake c0.Keep (f_Keep_init c0) (vCons (vC (.str "all")) (vCons (vC .non) vNil)))))) (vTest (vBin (gEqO (okq_Row c0) (f_Row_eq c0) not) (vInsD (vMakeD c0.Tries (f_Tries_init c0) [(.str "fault")] (vCons (vC (.int 2)) vNil))) (vInsD (vMake c0.Tries (f_Tries_init c0) (vCons (vC (.int 2)) (vCons (vC (.str "fault")) vNil)))))))) (vRet (vC (.bl false))) vNext) (vSeq (vIf (vOr (vTest (vBin (gEqO (okq_Row c0) (f_Row_eq c0) not) (vInsD (vMakeD c0.Soft (f_Soft_init c0) [(.str "fault")] vNil)) (vInsD (vMake c0.Soft (f_Soft_init c0) (vCons (vC (.str "fault")) vNil))))) (vNot (vTest (vCall (f_parts_right c0) vNil)))) (vRet (vC (.bl false))) vNext)
  (vSeq (vSet 2 (vCall (f_source c0) (vCons (vVar 0) (vCons (vC (.int 0)) vNil)))) (vSeq (vFor (vRange (vC (.int 6))) (vgName 3) (turnL c0)) (vRet (vC (.bl true))))))))) := rfl
def everyT : List T := [.tup [.ins c0.Leave [], .lst [.str "leave"]],
  .tup [.ins c0.Count [], .lst [.str "count"]],
  .tup [.ins c0.Lend [], .lst [.str "lend"]],
  .tup [.ins c0.Limit [("many", .int 1)], .lst [.str "limit", .str "1"]],
  .tup [.ins c0.Limit [("many", .int 2)], .lst [.str "limit", .str "2"]],
  .tup [.ins c0.Limit [("many", .int 3)], .lst [.str "limit", .str "3"]],
  .tup [.ins c0.Limit [("many", .int 4)], .lst [.str "limit", .str "4"]],
  .tup [.ins c0.Limit [("many", .int 5)], .lst [.str "limit", .str "5"]],
  .tup [.ins c0.Limit [("many", .int 6)], .lst [.str "limit", .str "6"]],
  .tup [.ins c0.Soft [("on", .str "fault")], .lst [.str "soft", .str "fault"]],
  .tup [.ins c0.Tries [("many", .int 1), ("on", .str "fault")], .lst [.str "tries", .str "1", .str "fault"]],
  .tup [.ins c0.Tries [("many", .int 2), ("on", .str "fault")], .lst [.str "tries", .str "2", .str "fault"]],
  .tup [.ins c0.Tries [("many", .int 3), ("on", .str "fault")], .lst [.str "tries", .str "3", .str "fault"]],
  .tup [.ins c0.Soft [("on", .str "all")], .lst [.str "soft", .str "all"]],
  .tup [.ins c0.Tries [("many", .int 1), ("on", .str "all")], .lst [.str "tries", .str "1", .str "all"]],
  .tup [.ins c0.Tries [("many", .int 2), ("on", .str "all")], .lst [.str "tries", .str "2", .str "all"]],
  .tup [.ins c0.Tries [("many", .int 3), ("on", .str "all")], .lst [.str "tries", .str "3", .str "all"]],
  .tup [.ins c0.Keep [("what", .str "good"), ("life", .non)], .lst [.str "keep", .str "good", .str "ever"]],
  .tup [.ins c0.Keep [("what", .str "good"), ("life", .int 0)], .lst [.str "keep", .str "good", .str "0"]],
  .tup [.ins c0.Keep [("what", .str "good"), ("life", .int 1)], .lst [.str "keep", .str "good", .str "1"]],
  .tup [.ins c0.Keep [("what", .str "good"), ("life", .int 2)], .lst [.str "keep", .str "good", .str "2"]],
  .tup [.ins c0.Keep [("what", .str "good"), ("life", .int 3)], .lst [.str "keep", .str "good", .str "3"]],
  .tup [.ins c0.Keep [("what", .str "all"), ("life", .non)], .lst [.str "keep", .str "all", .str "ever"]],
  .tup [.ins c0.Keep [("what", .str "all"), ("life", .int 0)], .lst [.str "keep", .str "all", .str "0"]],
  .tup [.ins c0.Keep [("what", .str "all"), ("life", .int 1)], .lst [.str "keep", .str "all", .str "1"]],
  .tup [.ins c0.Keep [("what", .str "all"), ("life", .int 2)], .lst [.str "keep", .str "all", .str "2"]],
  .tup [.ins c0.Keep [("what", .str "all"), ("life", .int 3)], .lst [.str "keep", .str "all", .str "3"]]]
def everyM : List MO := match f_every c0 [] [] with
  | some (_, m) => m
  | none => []
def usT : List T := [.tup [.int 0, .tup [.ins c0.Leave [], .lst [.str "leave"]]],
  .tup [.int 1, .tup [.ins c0.Count [], .lst [.str "count"]]],
  .tup [.int 2, .tup [.ins c0.Lend [], .lst [.str "lend"]]],
  .tup [.int 3, .tup [.ins c0.Limit [("many", .int 1)], .lst [.str "limit", .str "1"]]],
  .tup [.int 4, .tup [.ins c0.Limit [("many", .int 2)], .lst [.str "limit", .str "2"]]],
  .tup [.int 5, .tup [.ins c0.Limit [("many", .int 3)], .lst [.str "limit", .str "3"]]],
  .tup [.int 6, .tup [.ins c0.Limit [("many", .int 4)], .lst [.str "limit", .str "4"]]],
  .tup [.int 7, .tup [.ins c0.Limit [("many", .int 5)], .lst [.str "limit", .str "5"]]],
  .tup [.int 8, .tup [.ins c0.Limit [("many", .int 6)], .lst [.str "limit", .str "6"]]],
  .tup [.int 9, .tup [.ins c0.Soft [("on", .str "fault")], .lst [.str "soft", .str "fault"]]],
  .tup [.int 10, .tup [.ins c0.Tries [("many", .int 1), ("on", .str "fault")], .lst [.str "tries", .str "1", .str "fault"]]],
  .tup [.int 11, .tup [.ins c0.Tries [("many", .int 2), ("on", .str "fault")], .lst [.str "tries", .str "2", .str "fault"]]],
  .tup [.int 12, .tup [.ins c0.Tries [("many", .int 3), ("on", .str "fault")], .lst [.str "tries", .str "3", .str "fault"]]],
  .tup [.int 13, .tup [.ins c0.Soft [("on", .str "all")], .lst [.str "soft", .str "all"]]],
  .tup [.int 14, .tup [.ins c0.Tries [("many", .int 1), ("on", .str "all")], .lst [.str "tries", .str "1", .str "all"]]],
  .tup [.int 15, .tup [.ins c0.Tries [("many", .int 2), ("on", .str "all")], .lst [.str "tries", .str "2", .str "all"]]],
  .tup [.int 16, .tup [.ins c0.Tries [("many", .int 3), ("on", .str "all")], .lst [.str "tries", .str "3", .str "all"]]],
  .tup [.int 17, .tup [.ins c0.Keep [("what", .str "good"), ("life", .non)], .lst [.str "keep", .str "good", .str "ever"]]],
  .tup [.int 18, .tup [.ins c0.Keep [("what", .str "good"), ("life", .int 0)], .lst [.str "keep", .str "good", .str "0"]]],
  .tup [.int 19, .tup [.ins c0.Keep [("what", .str "good"), ("life", .int 1)], .lst [.str "keep", .str "good", .str "1"]]],
  .tup [.int 20, .tup [.ins c0.Keep [("what", .str "good"), ("life", .int 2)], .lst [.str "keep", .str "good", .str "2"]]],
  .tup [.int 21, .tup [.ins c0.Keep [("what", .str "good"), ("life", .int 3)], .lst [.str "keep", .str "good", .str "3"]]],
  .tup [.int 22, .tup [.ins c0.Keep [("what", .str "all"), ("life", .non)], .lst [.str "keep", .str "all", .str "ever"]]],
  .tup [.int 23, .tup [.ins c0.Keep [("what", .str "all"), ("life", .int 0)], .lst [.str "keep", .str "all", .str "0"]]],
  .tup [.int 24, .tup [.ins c0.Keep [("what", .str "all"), ("life", .int 1)], .lst [.str "keep", .str "all", .str "1"]]],
  .tup [.int 25, .tup [.ins c0.Keep [("what", .str "all"), ("life", .int 2)], .lst [.str "keep", .str "all", .str "2"]]],
  .tup [.int 26, .tup [.ins c0.Keep [("what", .str "all"), ("life", .int 3)], .lst [.str "keep", .str "all", .str "3"]]]]
theorem every_eq : f_every c0 [] [] = some (.ok (.val (.lst everyT)), everyM) := by kernel_rfl
def runO (t : T) (ρ : List (Option Sl)) (m : List MO) : R := match (vgTup [(vgName 4), (vgTup [(vgName 5), (vgName 6)])]) t ρ with
  | some ρ1 => (outL c0) ⟨ρ1, m⟩
  | none => none
def getS : R → Option (List (Option Sl) × Nat)
  | some (.nx, s) => some (s.ρ.take 4, s.ρ.length)
  | _ => none
def getA : R → Option (List (Option Sl))
  | some (.nx, s) => some s.ρ
  | _ => none
theorem turn_0 (a0 a2 a3 a4 a5 a6 a7 a8 a9 : Option Sl) (m : List MO) : getS (runO (.tup [.int 0, .tup [.ins c0.Leave [], .lst [.str "leave"]]]) [a0, some (.val (.lst everyT)), a2, a3, a4, a5, a6, a7, a8, a9] m) = some ([a0, some (.val (.lst everyT)), a2, a3], 10) := by kernel_rfl
theorem turn_1 (a0 a2 a3 a4 a5 a6 a7 a8 a9 : Option Sl) (m : List MO) : getS (runO (.tup [.int 1, .tup [.ins c0.Count [], .lst [.str "count"]]]) [a0, some (.val (.lst everyT)), a2, a3, a4, a5, a6, a7, a8, a9] m) = some ([a0, some (.val (.lst everyT)), a2, a3], 10) := by kernel_rfl
theorem turn_2 (a0 a2 a3 a4 a5 a6 a7 a8 a9 : Option Sl) (m : List MO) : getS (runO (.tup [.int 2, .tup [.ins c0.Lend [], .lst [.str "lend"]]]) [a0, some (.val (.lst everyT)), a2, a3, a4, a5, a6, a7, a8, a9] m) = some ([a0, some (.val (.lst everyT)), a2, a3], 10) := by kernel_rfl
theorem turn_3 (a0 a2 a3 a4 a5 a6 a7 a8 a9 : Option Sl) (m : List MO) : getS (runO (.tup [.int 3, .tup [.ins c0.Limit [("many", .int 1)], .lst [.str "limit", .str "1"]]]) [a0, some (.val (.lst everyT)), a2, a3, a4, a5, a6, a7, a8, a9] m) = some ([a0, some (.val (.lst everyT)), a2, a3], 10) := by kernel_rfl
theorem turn_4 (a0 a2 a3 a4 a5 a6 a7 a8 a9 : Option Sl) (m : List MO) : getS (runO (.tup [.int 4, .tup [.ins c0.Limit [("many", .int 2)], .lst [.str "limit", .str "2"]]]) [a0, some (.val (.lst everyT)), a2, a3, a4, a5, a6, a7, a8, a9] m) = some ([a0, some (.val (.lst everyT)), a2, a3], 10) := by kernel_rfl
theorem turn_5 (a0 a2 a3 a4 a5 a6 a7 a8 a9 : Option Sl) (m : List MO) : getS (runO (.tup [.int 5, .tup [.ins c0.Limit [("many", .int 3)], .lst [.str "limit", .str "3"]]]) [a0, some (.val (.lst everyT)), a2, a3, a4, a5, a6, a7, a8, a9] m) = some ([a0, some (.val (.lst everyT)), a2, a3], 10) := by kernel_rfl
theorem turn_6 (a0 a2 a3 a4 a5 a6 a7 a8 a9 : Option Sl) (m : List MO) : getS (runO (.tup [.int 6, .tup [.ins c0.Limit [("many", .int 4)], .lst [.str "limit", .str "4"]]]) [a0, some (.val (.lst everyT)), a2, a3, a4, a5, a6, a7, a8, a9] m) = some ([a0, some (.val (.lst everyT)), a2, a3], 10) := by kernel_rfl
theorem turn_7 (a0 a2 a3 a4 a5 a6 a7 a8 a9 : Option Sl) (m : List MO) : getS (runO (.tup [.int 7, .tup [.ins c0.Limit [("many", .int 5)], .lst [.str "limit", .str "5"]]]) [a0, some (.val (.lst everyT)), a2, a3, a4, a5, a6, a7, a8, a9] m) = some ([a0, some (.val (.lst everyT)), a2, a3], 10) := by kernel_rfl
theorem turn_8 (a0 a2 a3 a4 a5 a6 a7 a8 a9 : Option Sl) (m : List MO) : getS (runO (.tup [.int 8, .tup [.ins c0.Limit [("many", .int 6)], .lst [.str "limit", .str "6"]]]) [a0, some (.val (.lst everyT)), a2, a3, a4, a5, a6, a7, a8, a9] m) = some ([a0, some (.val (.lst everyT)), a2, a3], 10) := by kernel_rfl
theorem turn_9 (a0 a2 a3 a4 a5 a6 a7 a8 a9 : Option Sl) (m : List MO) : getS (runO (.tup [.int 9, .tup [.ins c0.Soft [("on", .str "fault")], .lst [.str "soft", .str "fault"]]]) [a0, some (.val (.lst everyT)), a2, a3, a4, a5, a6, a7, a8, a9] m) = some ([a0, some (.val (.lst everyT)), a2, a3], 10) := by kernel_rfl
theorem turn_10 (a0 a2 a3 a4 a5 a6 a7 a8 a9 : Option Sl) (m : List MO) : getS (runO (.tup [.int 10, .tup [.ins c0.Tries [("many", .int 1), ("on", .str "fault")], .lst [.str "tries", .str "1", .str "fault"]]]) [a0, some (.val (.lst everyT)), a2, a3, a4, a5, a6, a7, a8, a9] m) = some ([a0, some (.val (.lst everyT)), a2, a3], 10) := by kernel_rfl
theorem turn_11 (a0 a2 a3 a4 a5 a6 a7 a8 a9 : Option Sl) (m : List MO) : getS (runO (.tup [.int 11, .tup [.ins c0.Tries [("many", .int 2), ("on", .str "fault")], .lst [.str "tries", .str "2", .str "fault"]]]) [a0, some (.val (.lst everyT)), a2, a3, a4, a5, a6, a7, a8, a9] m) = some ([a0, some (.val (.lst everyT)), a2, a3], 10) := by kernel_rfl
theorem turn_12 (a0 a2 a3 a4 a5 a6 a7 a8 a9 : Option Sl) (m : List MO) : getS (runO (.tup [.int 12, .tup [.ins c0.Tries [("many", .int 3), ("on", .str "fault")], .lst [.str "tries", .str "3", .str "fault"]]]) [a0, some (.val (.lst everyT)), a2, a3, a4, a5, a6, a7, a8, a9] m) = some ([a0, some (.val (.lst everyT)), a2, a3], 10) := by kernel_rfl
theorem turn_13 (a0 a2 a3 a4 a5 a6 a7 a8 a9 : Option Sl) (m : List MO) : getS (runO (.tup [.int 13, .tup [.ins c0.Soft [("on", .str "all")], .lst [.str "soft", .str "all"]]]) [a0, some (.val (.lst everyT)), a2, a3, a4, a5, a6, a7, a8, a9] m) = some ([a0, some (.val (.lst everyT)), a2, a3], 10) := by kernel_rfl
theorem turn_14 (a0 a2 a3 a4 a5 a6 a7 a8 a9 : Option Sl) (m : List MO) : getS (runO (.tup [.int 14, .tup [.ins c0.Tries [("many", .int 1), ("on", .str "all")], .lst [.str "tries", .str "1", .str "all"]]]) [a0, some (.val (.lst everyT)), a2, a3, a4, a5, a6, a7, a8, a9] m) = some ([a0, some (.val (.lst everyT)), a2, a3], 10) := by kernel_rfl
theorem turn_15 (a0 a2 a3 a4 a5 a6 a7 a8 a9 : Option Sl) (m : List MO) : getS (runO (.tup [.int 15, .tup [.ins c0.Tries [("many", .int 2), ("on", .str "all")], .lst [.str "tries", .str "2", .str "all"]]]) [a0, some (.val (.lst everyT)), a2, a3, a4, a5, a6, a7, a8, a9] m) = some ([a0, some (.val (.lst everyT)), a2, a3], 10) := by kernel_rfl
theorem turn_16 (a0 a2 a3 a4 a5 a6 a7 a8 a9 : Option Sl) (m : List MO) : getS (runO (.tup [.int 16, .tup [.ins c0.Tries [("many", .int 3), ("on", .str "all")], .lst [.str "tries", .str "3", .str "all"]]]) [a0, some (.val (.lst everyT)), a2, a3, a4, a5, a6, a7, a8, a9] m) = some ([a0, some (.val (.lst everyT)), a2, a3], 10) := by kernel_rfl
theorem turn_17 (a0 a2 a3 a4 a5 a6 a7 a8 a9 : Option Sl) (m : List MO) : getS (runO (.tup [.int 17, .tup [.ins c0.Keep [("what", .str "good"), ("life", .non)], .lst [.str "keep", .str "good", .str "ever"]]]) [a0, some (.val (.lst everyT)), a2, a3, a4, a5, a6, a7, a8, a9] m) = some ([a0, some (.val (.lst everyT)), a2, a3], 10) := by kernel_rfl
theorem turn_18 (a0 a2 a3 a4 a5 a6 a7 a8 a9 : Option Sl) (m : List MO) : getS (runO (.tup [.int 18, .tup [.ins c0.Keep [("what", .str "good"), ("life", .int 0)], .lst [.str "keep", .str "good", .str "0"]]]) [a0, some (.val (.lst everyT)), a2, a3, a4, a5, a6, a7, a8, a9] m) = some ([a0, some (.val (.lst everyT)), a2, a3], 10) := by kernel_rfl
theorem turn_19 (a0 a2 a3 a4 a5 a6 a7 a8 a9 : Option Sl) (m : List MO) : getS (runO (.tup [.int 19, .tup [.ins c0.Keep [("what", .str "good"), ("life", .int 1)], .lst [.str "keep", .str "good", .str "1"]]]) [a0, some (.val (.lst everyT)), a2, a3, a4, a5, a6, a7, a8, a9] m) = some ([a0, some (.val (.lst everyT)), a2, a3], 10) := by kernel_rfl
theorem turn_20 (a0 a2 a3 a4 a5 a6 a7 a8 a9 : Option Sl) (m : List MO) : getS (runO (.tup [.int 20, .tup [.ins c0.Keep [("what", .str "good"), ("life", .int 2)], .lst [.str "keep", .str "good", .str "2"]]]) [a0, some (.val (.lst everyT)), a2, a3, a4, a5, a6, a7, a8, a9] m) = some ([a0, some (.val (.lst everyT)), a2, a3], 10) := by kernel_rfl
theorem turn_21 (a0 a2 a3 a4 a5 a6 a7 a8 a9 : Option Sl) (m : List MO) : getS (runO (.tup [.int 21, .tup [.ins c0.Keep [("what", .str "good"), ("life", .int 3)], .lst [.str "keep", .str "good", .str "3"]]]) [a0, some (.val (.lst everyT)), a2, a3, a4, a5, a6, a7, a8, a9] m) = some ([a0, some (.val (.lst everyT)), a2, a3], 10) := by kernel_rfl
theorem turn_22 (a0 a2 a3 a4 a5 a6 a7 a8 a9 : Option Sl) (m : List MO) : getS (runO (.tup [.int 22, .tup [.ins c0.Keep [("what", .str "all"), ("life", .non)], .lst [.str "keep", .str "all", .str "ever"]]]) [a0, some (.val (.lst everyT)), a2, a3, a4, a5, a6, a7, a8, a9] m) = some ([a0, some (.val (.lst everyT)), a2, a3], 10) := by kernel_rfl
theorem turn_23 (a0 a2 a3 a4 a5 a6 a7 a8 a9 : Option Sl) (m : List MO) : getS (runO (.tup [.int 23, .tup [.ins c0.Keep [("what", .str "all"), ("life", .int 0)], .lst [.str "keep", .str "all", .str "0"]]]) [a0, some (.val (.lst everyT)), a2, a3, a4, a5, a6, a7, a8, a9] m) = some ([a0, some (.val (.lst everyT)), a2, a3], 10) := by kernel_rfl
theorem turn_24 (a0 a2 a3 a4 a5 a6 a7 a8 a9 : Option Sl) (m : List MO) : getS (runO (.tup [.int 24, .tup [.ins c0.Keep [("what", .str "all"), ("life", .int 1)], .lst [.str "keep", .str "all", .str "1"]]]) [a0, some (.val (.lst everyT)), a2, a3, a4, a5, a6, a7, a8, a9] m) = some ([a0, some (.val (.lst everyT)), a2, a3], 10) := by kernel_rfl
theorem turn_25 (a0 a2 a3 a4 a5 a6 a7 a8 a9 : Option Sl) (m : List MO) : getS (runO (.tup [.int 25, .tup [.ins c0.Keep [("what", .str "all"), ("life", .int 2)], .lst [.str "keep", .str "all", .str "2"]]]) [a0, some (.val (.lst everyT)), a2, a3, a4, a5, a6, a7, a8, a9] m) = some ([a0, some (.val (.lst everyT)), a2, a3], 10) := by kernel_rfl
theorem turn_26 (a0 a2 a3 a4 a5 a6 a7 a8 a9 : Option Sl) (m : List MO) : getS (runO (.tup [.int 26, .tup [.ins c0.Keep [("what", .str "all"), ("life", .int 3)], .lst [.str "keep", .str "all", .str "3"]]]) [a0, some (.val (.lst everyT)), a2, a3, a4, a5, a6, a7, a8, a9] m) = some ([a0, some (.val (.lst everyT)), a2, a3], 10) := by kernel_rfl
def blR : Option (Out Sl × List MO) → Option Bool
  | some (.ok (.val (.bl b)), _) => some b
  | _ => none
theorem blR_ok {r : Option (Out Sl × List MO)} {b : Bool} (h : blR r = some b) : ∃ sub, r = some (.ok (.val (.bl b)), sub) := by
  unfold blR at h
  split at h
  · injection h with h
    subst h
    exact ⟨_, rfl⟩
  · cases h
def kG : List (Str × T) := [("what", .str "good"), ("life", .non)]
def kA : List (Str × T) := [("what", .str "all"), ("life", .non)]
def tF : List (Str × T) := [("many", .int 2), ("on", .str "fault")]
def sF : List (Str × T) := [("on", .str "fault")]
theorem ik_1 : f_Keep_init c0 (.own 0 :: [.val (.str "good"), .val .non]) [.ins c0.Keep []] = some (.ok (.val .non), [.ins c0.Keep (valF kG)]) := by kernel_rfl
theorem ik_2 : f_Keep_init c0 (.own 0 :: [.val (.str "all"), .val .non]) [.ins c0.Keep []] = some (.ok (.val .non), [.ins c0.Keep (valF kA)]) := by kernel_rfl
theorem ik_3 : f_Tries_init c0 (.own 0 :: [.val (.int 2), .val (.str "fault")]) [.ins c0.Tries []] = some (.ok (.val .non), [.ins c0.Tries (valF tF)]) := by kernel_rfl
theorem ik_4 : f_Soft_init c0 (.own 0 :: [.val (.str "fault")]) [.ins c0.Soft []] = some (.ok (.val .non), [.ins c0.Soft (valF sF)]) := by kernel_rfl
theorem iq_1 : blR (f_Row_eq c0 [.val (.ins c0.Keep kG), .val (.ins c0.Keep kG)] []) = some true := by kernel_rfl
theorem iq_2 : blR (f_Row_eq c0 [.val (.ins c0.Keep kA), .val (.ins c0.Keep kA)] []) = some true := by kernel_rfl
theorem iq_3 : blR (f_Row_eq c0 [.val (.ins c0.Tries tF), .val (.ins c0.Tries tF)] []) = some true := by kernel_rfl
theorem iq_4 : blR (f_Row_eq c0 [.val (.ins c0.Soft sF), .val (.ins c0.Soft sF)] []) = some true := by kernel_rfl
theorem ip_1 : blR (f_parts_right c0 [] []) = some true := by kernel_rfl
def textR (r : T) : Option Str := match f_row_text c0 [.val r] [] with
  | some (.ok (.val (.str z)), _) => some z
  | _ => none
def readR (z : Str) : Option (Addr × List (Str × T)) := match f_Row_read c0 [.val (.cst (.ref c0.Row)), .val (.str z)] [] with
  | some (.ok (.val (.ins C fs)), _) => some (C, fs)
  | _ => none
def strR (C : Addr) (fs : List (Str × T)) : Option Str := match f_Row_str c0 [.val (.ins C fs)] [] with
  | some (.ok (.val (.str z)), _) => some z
  | _ => none
def chk (r : T) : Bool := match textR r with
  | some z => match readR z with
    | some (C, fs) => ok_Row c0 C && SeqAt.shaped (.str z) && (match strR C fs with
      | some y => y == z
      | none => false)
    | none => false
  | none => false
theorem chk_all : rowsT.all chk = true := by kernel_rfl
end Vw
end
section
namespace Vw
open PySem PySem.Spec PyProof.Rows L2 Own Vs
theorem draw_k : DrawOk "mixed" (f_draw c0) := fun x n gs hg hx hn => by
  rw [f_draw_eq]
  exact draw_ok (by decide) hg hx hn (by decide)
theorem rows_k : DealOk "mixed" (f_rows c0) [.val (.int 1)] (fun t => ∃ rs, t = .lst rs ∧ (∀ u ∈ rs, u ∈ rowsT) ∧ rs.length = 1) := by
  have hm : MixOk "mixed" (f_mixed c0) := fun us h => by rw [f_mixed_eq]; exact mixF_ok draw_k h
  have hr : RowOk "mixed" (f_row c0) := by rw [f_row_eq, f_pick_eq]; exact row_ok draw_k
  have h := rows_ok hm hr 1
  rw [← f_rows_eq] at h
  exact h
/-- the store grows behind the deal -/
theorem at_app {key : Str} {m X : List MO} {d g : Nat} {x : Int} {gs : List Int} (A : DealAt key m d g x gs) : DealAt key (m ++ X) d g x gs :=
  ⟨(List.getElem?_append_left (List.getElem?_eq_some_iff.mp A.rc).1).trans A.rc, (List.getElem?_append_left (List.getElem?_eq_some_iff.mp A.ls).1).trans A.ls, A.ne, A.xr, A.gl⟩
theorem text_ok {r : T} {z : Str} (h : textR r = some z) : ∃ m', f_row_text c0 [.val r] [] = some (.ok (.val (.str z)), m') := by
  unfold textR at h
  split at h
  · rename_i e; cases h; exact ⟨_, e⟩
  · cases h
theorem read_ok {z : Str} {C : Addr} {fs : List (Str × T)} (h : readR z = some (C, fs)) : ∃ m', f_Row_read c0 [.val (.cst (.ref c0.Row)), .val (.str z)] [] = some (.ok (.val (.ins C fs)), m') := by
  unfold readR at h
  split at h
  · rename_i e; cases h; exact ⟨_, e⟩
  · cases h
theorem str_ok {z : Str} {C : Addr} {fs : List (Str × T)} (h : strR C fs = some z) : ∃ m', f_Row_str c0 [.val (.ins C fs)] [] = some (.ok (.val (.str z)), m') := by
  unfold strR at h
  split at h
  · rename_i e; cases h; exact ⟨_, e⟩
  · cases h
theorem chk_ok {r : T} (h : chk r = true) : ∃ z C fs, textR r = some z ∧ readR z = some (C, fs) ∧ ok_Row c0 C = true ∧ SeqAt.shaped (.str z) = true ∧ strR C fs = some z := by
  unfold chk at h
  split at h
  · rename_i z e1
    split at h
    · rename_i C fs e2
      rw [Bool.and_eq_true, Bool.and_eq_true] at h
      obtain ⟨⟨h1, h2⟩, h3⟩ := h
      split at h3
      · rename_i y e3
        have e := eq_of_beq h3
        subst e
        exact ⟨_, C, fs, e1, e2, h1, h2, e3⟩
      · cases h3
    · cases h
  · cases h
theorem turn_ok {m : List MO} {ρ : List (Option Sl)} {d g : Nat} {x : Int} {gs : List Int} (hl : ρ.length = 10) (h2 : ρ[2]? = some (some (.own d))) (A : DealAt "mixed" m d g x gs) :
    ∃ ρ' m' x' gs', turnL c0 ⟨ρ, m⟩ = some (.nx, ⟨ρ', m'⟩) ∧ ρ'.length = 10 ∧ ρ'[2]? = some (some (.own d)) ∧ DealAt "mixed" m' d g x' gs' := by
  obtain ⟨t, x1, gs1, m1, c1, ⟨rs, rfl, hrs, lrs⟩, A1, _⟩ := rows_k.at_ (v0c v0n) A
  obtain ⟨r, rfl⟩ := List.length_eq_one_iff.mp lrs
  obtain ⟨z, C, fs, t1, t2, t3, t4, t5⟩ := chk_ok (List.all_eq_true.mp chk_all r (hrs r (List.mem_singleton.mpr rfl)))
  obtain ⟨_, e1⟩ := text_ok t1
  obtain ⟨_, e2⟩ := read_ok t2
  obtain ⟨_, e3⟩ := str_ok t5
  obtain ⟨X1, k1⟩ := call_val (m := m1) rfl rfl e1
  obtain ⟨X2, k2⟩ := call_val (m := m1 ++ X1) rfl rfl e2
  obtain ⟨X3, k3⟩ := call_val (m := m1 ++ X1 ++ X2) rfl rfl e3
  obtain ⟨X4, k4⟩ := call_val (m := m1 ++ X1 ++ X2 ++ X3) rfl rfl e1
  have v5 : (ρ.set 5 (some (.val r)))[5]? = some (some (.val r)) := by rw [List.getElem?_set_self (by omega)]
  have v2 : (ρ.set 5 (some (.val r)))[2]? = some (some (.own d)) := by rw [List.getElem?_set_ne (by decide)]; exact h2
  refine ⟨ρ.set 5 (some (.val r)), m1 ++ X1 ++ X2 ++ X3 ++ X4, x1, gs1, ?_, by rw [List.length_set]; exact hl, v2, at_app (at_app (at_app (at_app A1)))⟩
  have rt : ∀ m' m'', callM (f_row_text c0) [.val r] m' = rM (.val (.str z)) m'' → vCall (f_row_text c0) (vCons (vVar 5) vNil) ⟨ρ.set 5 (some (.val r)), m'⟩ = rM (.val (.str z)) m'' := fun m' m'' k => se_call (sa_cons (se_var v5) sa_nil) k
  have cm : vCMeth c0.Row (f_Row_read c0) (vCons (vCall (f_row_text c0) (vCons (vVar 5) vNil)) vNil) ⟨ρ.set 5 (some (.val r)), m1⟩ = rM (.val (.ins C fs)) (m1 ++ X1 ++ X2) := by
    unfold vCMeth
    rw [sa_cons (rt _ _ k1) sa_nil]
    exact k2
  have so : vB (gStrO (ok_Row c0) (f_Row_str c0)) (vCons (vCMeth c0.Row (f_Row_read c0) (vCons (vCall (f_row_text c0) (vCons (vVar 5) vNil)) vNil)) vNil) ⟨ρ.set 5 (some (.val r)), m1⟩ = rM (.val (.str z)) (m1 ++ X1 ++ X2 ++ X3) := by
    refine se_b (sa_cons cm sa_nil) ?_
    show (if ok_Row c0 C = true then strOf (callM (f_Row_str c0) [.val (.ins C fs)] (m1 ++ X1 ++ X2)) else none) = _
    rw [if_pos t3, k3]
    rfl
  have ne : dNe (.val (.str z)) (.val (.str z)) (m1 ++ X1 ++ X2 ++ X3 ++ X4) = rM (.val (.bl false)) (m1 ++ X1 ++ X2 ++ X3 ++ X4) := by
    show (if SeqAt.shaped (.str z) = true ∧ SeqAt.shaped (.str z) = true then rM (Sl.val (.bl (!PyData.eqv (.str z) (.str z)))) _ else none) = _
    rw [if_pos ⟨t4, t4⟩]
    have : PyData.eqv (.str z) (.str z) = true := by
      show decide (z = z) = true
      exact decide_eq_true rfl
    rw [this]
    rfl
  exact st_seq (st_set (se_bin (se_call (sa_cons (se_var h2) (sa_cons se_c sa_nil)) c1) se_c rfl)) (st_ifn (sc_test (se_bin so (rt _ _ k4) ne)) rfl)
theorem loop_ok : ∀ (us : List T) {m : List MO} {ρ : List (Option Sl)} {d g : Nat} {x : Int} {gs : List Int}, ρ.length = 10 → ρ[2]? = some (some (.own d)) → DealAt "mixed" m d g x gs →
    ∃ s', vLoop (vgName 3) (turnL c0) us ⟨ρ, m⟩ = some (.nx, s')
  | [], m, ρ, d, g, x, gs, _, _, _ => ⟨_, rfl⟩
  | u :: us, m, ρ, d, g, x, gs, hl, h2, A => by
    obtain ⟨ρ', m', x', gs', e, l1, v2, A'⟩ := turn_ok (ρ := ρ.set 3 (some (.val u))) (by rw [List.length_set]; exact hl) (by rw [List.getElem?_set_ne (by decide)]; exact h2) A
    obtain ⟨s', e'⟩ := loop_ok us l1 v2 A'
    exact ⟨s', st_loop (ρ1 := ρ.set 3 (some (.val u))) rfl e e'⟩
theorem seq_assoc {f g h : VS} {s : S} : vSeq f (vSeq g h) s = vSeq (vSeq f g) h s := by
  unfold vSeq
  cases f s with
  | none => rfl
  | some p => obtain ⟨fl, s'⟩ := p; cases fl <;> rfl
theorem seq3 {f g h : VS} {s : S} {r : R} (k : vSeq (vSeq f g) h s = r) : vSeq f (vSeq g h) s = r := by rw [seq_assoc]; exact k
theorem ten {ρ : List (Option Sl)} (h : ρ.length = 10) : ∃ a0 a1 a2 a3 a4 a5 a6 a7 a8 a9, ρ = [a0, a1, a2, a3, a4, a5, a6, a7, a8, a9] := by
  match ρ, h with
  | [a0, a1, a2, a3, a4, a5, a6, a7, a8, a9], _ => exact ⟨_, _, _, _, _, _, _, _, _, _, rfl⟩
theorem turn_all : ∀ t ∈ usT, ∀ (a0 a2 a3 a4 a5 a6 a7 a8 a9 : Option Sl) (m : List MO), getS (runO t [a0, some (.val (.lst everyT)), a2, a3, a4, a5, a6, a7, a8, a9] m) = some ([a0, some (.val (.lst everyT)), a2, a3], 10) := by
  intro t ht
  unfold usT at ht
  rcases List.mem_cons.mp ht with rfl | ht
  · exact turn_0
  rcases List.mem_cons.mp ht with rfl | ht
  · exact turn_1
  rcases List.mem_cons.mp ht with rfl | ht
  · exact turn_2
  rcases List.mem_cons.mp ht with rfl | ht
  · exact turn_3
  rcases List.mem_cons.mp ht with rfl | ht
  · exact turn_4
  rcases List.mem_cons.mp ht with rfl | ht
  · exact turn_5
  rcases List.mem_cons.mp ht with rfl | ht
  · exact turn_6
  rcases List.mem_cons.mp ht with rfl | ht
  · exact turn_7
  rcases List.mem_cons.mp ht with rfl | ht
  · exact turn_8
  rcases List.mem_cons.mp ht with rfl | ht
  · exact turn_9
  rcases List.mem_cons.mp ht with rfl | ht
  · exact turn_10
  rcases List.mem_cons.mp ht with rfl | ht
  · exact turn_11
  rcases List.mem_cons.mp ht with rfl | ht
  · exact turn_12
  rcases List.mem_cons.mp ht with rfl | ht
  · exact turn_13
  rcases List.mem_cons.mp ht with rfl | ht
  · exact turn_14
  rcases List.mem_cons.mp ht with rfl | ht
  · exact turn_15
  rcases List.mem_cons.mp ht with rfl | ht
  · exact turn_16
  rcases List.mem_cons.mp ht with rfl | ht
  · exact turn_17
  rcases List.mem_cons.mp ht with rfl | ht
  · exact turn_18
  rcases List.mem_cons.mp ht with rfl | ht
  · exact turn_19
  rcases List.mem_cons.mp ht with rfl | ht
  · exact turn_20
  rcases List.mem_cons.mp ht with rfl | ht
  · exact turn_21
  rcases List.mem_cons.mp ht with rfl | ht
  · exact turn_22
  rcases List.mem_cons.mp ht with rfl | ht
  · exact turn_23
  rcases List.mem_cons.mp ht with rfl | ht
  · exact turn_24
  rcases List.mem_cons.mp ht with rfl | ht
  · exact turn_25
  rcases List.mem_cons.mp ht with rfl | ht
  · exact turn_26
  cases ht
theorem getS_ok {r : R} {q : List (Option Sl) × Nat} (h : getS r = some q) : ∃ s, r = some (.nx, s) ∧ s.ρ.take 4 = q.1 ∧ s.ρ.length = q.2 := by
  unfold getS at h
  split at h
  · injection h with h
    subst h
    exact ⟨_, rfl, rfl, rfl⟩
  · cases h
theorem outer_ok : ∀ (us : List T), (∀ t ∈ us, t ∈ usT) → ∀ (a0 a2 a3 a4 a5 a6 a7 a8 a9 : Option Sl) (m : List MO),
    ∃ b2 b3 b4 b5 b6 b7 b8 b9 m', vLoop (vgTup [(vgName 4), (vgTup [(vgName 5), (vgName 6)])]) (outL c0) us ⟨[a0, some (.val (.lst everyT)), a2, a3, a4, a5, a6, a7, a8, a9], m⟩ = some (.nx, ⟨[a0, some (.val (.lst everyT)), b2, b3, b4, b5, b6, b7, b8, b9], m'⟩)
  | [], _, a0, a2, a3, a4, a5, a6, a7, a8, a9, m => ⟨_, _, _, _, _, _, _, _, _, rfl⟩
  | t :: us, h, a0, a2, a3, a4, a5, a6, a7, a8, a9, m => by
    obtain ⟨s, e, h1, h2⟩ := getS_ok (turn_all t (h t (List.mem_cons_self ..)) a0 a2 a3 a4 a5 a6 a7 a8 a9 m)
    obtain ⟨ρ, m1⟩ := s
    obtain ⟨c0', c1', c2, c3, c4, c5, c6, c7, c8, c9, rfl⟩ := ten h2
    simp only [List.take_succ_cons, List.take_zero, List.cons.injEq, and_true] at h1
    obtain ⟨rfl, rfl, rfl, rfl⟩ := h1
    obtain ⟨b2, b3, b4, b5, b6, b7, b8, b9, m', el⟩ := outer_ok us (fun t ht => h t (List.mem_cons_of_mem _ ht)) c0' c2 c3 c4 c5 c6 c7 c8 c9 m1
    refine ⟨b2, b3, b4, b5, b6, b7, b8, b9, m', ?_⟩
    unfold runO at e
    split at e
    · rename_i ρ1 eg
      exact st_loop (ρ1 := ρ1) eg e el
    · cases e
theorem neq_ok {fe ge : VE} {C : Addr} {ts : List (Str × T)} {s : S} {m1 m2 : List MO} (h1 : fe s = rM (.val (.ins C ts)) m1) (h2 : ge ⟨s.ρ, m1⟩ = rM (.val (.ins C ts)) m2) (o : okq_Row c0 C (.cls C) = true) (h : blR (f_Row_eq c0 [.val (.ins C ts), .val (.ins C ts)] []) = some true) :
    ∃ m3, vTest (vBin (gEqO (okq_Row c0) (f_Row_eq c0) not) fe ge) s = rM false m3 := by
  obtain ⟨sub, e⟩ := blR_ok h
  obtain ⟨X, e2⟩ := se_eqO (f := not) h1 h2 o e
  exact ⟨_, sc_test e2⟩
theorem v0s {a b : T} : Vals0 [.val a, .val b] := v0c (v0c v0n)
theorem ifC_ok (ρ : List (Option Sl)) (m : List MO) : ∃ m', (vIf (vOr (vTest (vBin (gEqO (okq_Row c0) (f_Row_eq c0) not) (vInsD (vMakeD c0.Keep (f_Keep_init c0) [(.str "good"), .non] vNil)) (vInsD (vMake c0.Keep (f_Keep_init c0) (vCons (vC (.str "good")) (vCons (vC .non) vNil)))))) (vOr (vTest (vBin (gEqO (okq_Row c0) (f_Row_eq c0) not) (vInsD (vMakeD c0.Keep (f_Keep_init c0) [.non] (vCons (vC (.str "all")) vNil))) (vInsD (vMake c0.Keep (f_Keep_init c0) (vCons (vC (.str "all")) (vCons (vC .non) vNil)))))) (vTest (vBin (gEqO (okq_Row c0) (f_Row_eq c0) not) (vInsD (vMakeD c0.Tries (f_Tries_init c0) [(.str "fault")] (vCons (vC (.int 2)) vNil))) (vInsD (vMake c0.Tries (f_Tries_init c0) (vCons (vC (.int 2)) (vCons (vC (.str "fault")) vNil)))))))) (vRet (vC (.bl false))) vNext) ⟨ρ, m⟩ = some (.nx, ⟨ρ, m'⟩) := by
  obtain ⟨m1, e1⟩ := neq_ok (s := ⟨ρ, m⟩) (se_makeD (fa := vNil) (dts := [.str "good", .non]) rfl v0s ik_1) (se_make (fa := vCons (vC (.str "good")) (vCons (vC .non) vNil)) rfl v0s ik_1) rfl iq_1
  obtain ⟨m2, e2⟩ := neq_ok (s := ⟨ρ, m1⟩) (se_makeD (fa := vCons (vC (.str "all")) vNil) (dts := [.non]) rfl v0s ik_2) (se_make (fa := vCons (vC (.str "all")) (vCons (vC .non) vNil)) rfl v0s ik_2) rfl iq_2
  obtain ⟨m3, e3⟩ := neq_ok (s := ⟨ρ, m2⟩) (se_makeD (fa := vCons (vC (.int 2)) vNil) (dts := [.str "fault"]) rfl v0s ik_3) (se_make (fa := vCons (vC (.int 2)) (vCons (vC (.str "fault")) vNil)) rfl v0s ik_3) rfl iq_3
  exact ⟨m3, st_ifn (sc_or e1 (sc_or e2 e3)) rfl⟩
theorem ifD_ok (ρ : List (Option Sl)) (m : List MO) : ∃ m', (vIf (vOr (vTest (vBin (gEqO (okq_Row c0) (f_Row_eq c0) not) (vInsD (vMakeD c0.Soft (f_Soft_init c0) [(.str "fault")] vNil)) (vInsD (vMake c0.Soft (f_Soft_init c0) (vCons (vC (.str "fault")) vNil))))) (vNot (vTest (vCall (f_parts_right c0) vNil)))) (vRet (vC (.bl false))) vNext) ⟨ρ, m⟩ = some (.nx, ⟨ρ, m'⟩) := by
  obtain ⟨m1, e1⟩ := neq_ok (s := ⟨ρ, m⟩) (se_makeD (fa := vNil) (dts := [.str "fault"]) rfl (v0c v0n) ik_4) (se_make (fa := vCons (vC (.str "fault")) vNil) rfl (v0c v0n) ik_4) rfl iq_4
  obtain ⟨sub, ep⟩ := blR_ok ip_1
  obtain ⟨X, e2⟩ := call_val (m := m1) (as := []) rfl rfl ep
  exact ⟨m1 ++ X, st_ifn (sc_or e1 (sc_not (k := true) (sc_test (se_call sa_nil e2)))) rfl⟩
theorem pure_law (ns : List Int) (hl : ns.length ≤ 63) : ∃ m', f_law c0 [.val (.seq (ns.map T.int))] [] = some (.ok (.val (.bl true)), m') := by
  let a0 : Option Sl := some (.val (.seq (ns.map T.int)))
  obtain ⟨X0, ce⟩ := call_val (vf := f_every c0) (as := []) (m := []) rfl rfl every_eq
  obtain ⟨b2, b3, b4, b5, b6, b7, b8, b9, m', e2⟩ := outer_ok usT (fun t h => h) a0 none none none none none none none none ([] ++ X0)
  obtain ⟨m3, e3⟩ := ifC_ok [a0, some (.val (.lst everyT)), b2, b3, b4, b5, b6, b7, b8, b9] m'
  obtain ⟨m4, e4⟩ := ifD_ok [a0, some (.val (.lst everyT)), b2, b3, b4, b5, b6, b7, b8, b9] m3
  let s4 : S := ⟨[a0, some (.val (.lst everyT)), b2, b3, b4, b5, b6, b7, b8, b9], m4⟩
  have q0 : s4.ρ[0]? = some a0 := rfl
  have ql : s4.ρ.length = 10 := rfl
  obtain ⟨x, gs, e, hx, hg⟩ := src_ok (key := "mixed") (hi := 62) (c0 := 73939133) (cm := 67) (mu := 30671) (md := 2147483423) (ad := 31) (b := 0) (ns := ns) (by decide) (by omega) (by decide) (by decide) (by decide) (by decide)
  rw [← f_source_eq] at e
  have c1 := call_fresh (m := s4.m) rfl rfl e
  have cs : vCall (f_source c0) (vCons (vVar 0) (vCons (vC (.int 0)) vNil)) s4 = rM (.own (s4.m.length + 1)) (s4.m ++ [.lst (gs.map T.int), .rcd [("great", .own s4.m.length), ("mixed", .val (.int x))]]) := se_call (sa_cons (se_var q0) (sa_cons se_c sa_nil)) c1
  have A : DealAt "mixed" (s4.m ++ [.lst (gs.map T.int), .rcd [("great", .own s4.m.length), ("mixed", .val (.int x))]]) (s4.m.length + 1) s4.m.length x gs := by
    refine ⟨?_, ?_, by omega, hx, by omega⟩
    · rw [List.getElem?_append_right (by omega), Nat.add_sub_cancel_left]
      rfl
    · rw [List.getElem?_append_right (by omega), Nat.sub_self]
      rfl
  obtain ⟨s', el⟩ := loop_ok [.int 0, .int 1, .int 2, .int 3, .int 4, .int 5] (ρ := s4.ρ.set 2 (some (.own (s4.m.length + 1)))) (by rw [List.length_set]; exact ql) (List.getElem?_set_self (by omega)) A
  refine ⟨s'.m, sd_rt (f := b_law c0) (nl := 10) (s1 := s') ?_⟩
  rw [b_law_eq]
  have tail : vSeq ((vSet 2 (vCall (f_source c0) (vCons (vVar 0) (vCons (vC (.int 0)) vNil))))) (vSeq (vFor (vRange (vC (.int 6))) (vgName 3) (turnL c0)) ((vRet (vC (.bl true))))) s4 = some (.rt (.val (.bl true)), s') :=
    st_seq (st_set cs) (st_seq (st_for rfl el) (st_ret se_c))
  exact st_seq (st_set (se_call sa_nil ce)) (st_seq (st_for (us := usT) rfl e2) (st_seq e3 (st_seq e4 tail)))
end Vw
end
open PySem PySem.W PyProof.Rows
set_option maxRecDepth 100000 in
set_option maxHeartbeats 0 in
theorem PySem.Challenge.cw_outermost_k02_rows_made_holds : PySem.Challenge.rw_outermost_k02_rows_made.Holds := by
  w_on; o_law; k_head; (case hw => w_witness2)
  k_fill
  refine Vs.walk_ofG (l := PySem.Challenge.rw_outermost_k02_rows_made) (n := 63) (k := 7) (x := "_law_script") (sp := fun w => @Vs.SpV ⟨(PySem.Challenge.rw_outermost_k02_rows_made).prog, w⟩ _ 1 (Vw.f_law Vw.c0)) rfl (by decide) rfl ⟨rfl, by decide, by decide⟩ (fun w h Y => PySem.W.kIn_of Y) ?F (fun w H a ns hl hS => @Vs.law_sp ⟨(PySem.Challenge.rw_outermost_k02_rows_made).prog, w⟩ _ _ _ Vw.pure_law H a ns hl hS)
  case F =>
    intro w mg fa h KX G hmg
    letI : Vs.WW := ⟨(PySem.Challenge.rw_outermost_k02_rows_made).prog, w⟩
    refine' Exists.imp (fun fd z => And.intro z.1 fun base => z.2 base) (Vw.all_mk (P := (PySem.Challenge.rw_outermost_k02_rows_made).prog) (w := w) KX G hmg ?a_WrapError ?a_InvalidRow ?a_InvalidText ?a_Row ?a_Keep ?a_Tries ?a_Limit ?a_Leave ?a_Soft ?a_Count ?a_Lend ?z_int ?z_abs ?z_len ?z_range ?z_list ?z_tuple ?z_str ?z_max ?z_min ?z_sorted ?z_enumerate ?z_zip ?z_isinstance ?z_bool ?z_any ?z_all ?z_sum ?cl_Row ?cl_Keep ?cl_Tries ?cl_Limit ?cl_Leave ?cl_Soft ?cl_Count ?cl_Lend ?oc_n ?oc_t ?ca_Row ?cm_Row ?ca_Keep ?cm_Keep ?ca_Tries ?cm_Tries ?ca_Limit ?cm_Limit ?ca_Leave ?cm_Leave ?ca_Soft ?cm_Soft ?ca_Count ?cm_Count ?ca_Lend ?cm_Lend ?no_many_Row ?no_many_Keep ?no_many_Tries ?no_many_Limit ?no_many_Leave ?no_many_Soft ?no_many_Count ?no_many_Lend ?no_on_Row ?no_on_Keep ?no_on_Tries ?no_on_Limit ?no_on_Leave ?no_on_Soft ?no_on_Count ?no_on_Lend ?no_life_Row ?no_life_Keep ?no_life_Tries ?no_life_Limit ?no_life_Leave ?no_life_Soft ?no_life_Count ?no_life_Lend ?no_what_Row ?no_what_Keep ?no_what_Tries ?no_what_Limit ?no_what_Leave ?no_what_Soft ?no_what_Count ?no_what_Lend ?st_Row_bool ?st_Keep_bool ?st_Tries_bool ?st_Limit_bool ?st_Leave_bool ?st_Soft_bool ?st_Count_bool ?st_Lend_bool ?st_Row_int ?st_Keep_int ?st_Tries_int ?st_Limit_int ?st_Leave_int ?st_Soft_int ?st_Count_int ?st_Lend_int ?ic_Row ?tc_Row ?sb_NoneType_Row ?sb_bool_Row ?sb_int_Row ?sb_str_Row ?sb_list_Row ?sb_tuple_Row ?ss_Row_Row ?ss_Keep_Row ?ss_Tries_Row ?ss_Limit_Row ?ss_Leave_Row ?ss_Soft_Row ?ss_Count_Row ?ss_Lend_Row ?z_repr ?g_MOST_TRIES ?l_MOST_TRIES ?g_FAULTS ?l_FAULTS ?g_LIVES ?l_LIVES ?g_KEPT_ANSWERS ?l_KEPT_ANSWERS ?g_MOST_ASKED ?l_MOST_ASKED ?mo_Lend ?mo_Count ?mo_Leave ?mk_Keep ?mk_Tries ?mk_Limit ?mk_Soft ?own_Row ?own_Keep ?own_Tries ?own_Limit ?own_Leave ?own_Soft ?own_Count ?own_Lend ?nf_Keep_Keep ?nf_Keep_Tries ?nf_Keep_Limit ?nf_Keep_Leave ?nf_Keep_Soft ?nf_Keep_Count ?nf_Keep_Lend ?nf_Tries_Keep ?nf_Tries_Tries ?nf_Tries_Limit ?nf_Tries_Leave ?nf_Tries_Soft ?nf_Tries_Count ?nf_Tries_Lend ?nf_Limit_Keep ?nf_Limit_Tries ?nf_Limit_Limit ?nf_Limit_Leave ?nf_Limit_Soft ?nf_Limit_Count ?nf_Limit_Lend ?nf_Leave_Keep ?nf_Leave_Tries ?nf_Leave_Limit ?nf_Leave_Leave ?nf_Leave_Soft ?nf_Leave_Count ?nf_Leave_Lend ?nf_Soft_Keep ?nf_Soft_Tries ?nf_Soft_Limit ?nf_Soft_Leave ?nf_Soft_Soft ?nf_Soft_Count ?nf_Soft_Lend ?nf_Count_Keep ?nf_Count_Tries ?nf_Count_Limit ?nf_Count_Leave ?nf_Count_Soft ?nf_Count_Count ?nf_Count_Lend ?nf_Lend_Keep ?nf_Lend_Tries ?nf_Lend_Limit ?nf_Lend_Leave ?nf_Lend_Soft ?nf_Lend_Count ?nf_Lend_Lend ?mr_Row_str ?mr_Row_tuple ?mr_Row_NoneType ?mr_Keep_str ?mr_Keep_tuple ?mr_Keep_NoneType ?mr_Tries_str ?mr_Tries_tuple ?mr_Tries_NoneType ?mr_Limit_str ?mr_Limit_tuple ?mr_Limit_NoneType ?mr_Leave_str ?mr_Leave_tuple ?mr_Leave_NoneType ?mr_Soft_str ?mr_Soft_tuple ?mr_Soft_NoneType ?mr_Count_str ?mr_Count_tuple ?mr_Count_NoneType ?mr_Lend_str ?mr_Lend_tuple ?mr_Lend_NoneType ?a_fn_check_argument ?F_check_argument ?a_fn_is_integer ?F_is_integer ?a_fn_is_one_of ?F_is_one_of ?F_Limit_init ?F_Soft_init ?F_Keep_init ?F_Tries_init ?a_fn__law_every ?F_every ?a_fn__law_source ?F_source ?mt_Keep_words ?F_Keep_words ?mt_Tries_words ?F_Tries_words ?mt_Limit_words ?F_Limit_words ?mt_Leave_words ?F_Leave_words ?mt_Soft_words ?F_Soft_words ?mt_Count_words ?F_Count_words ?mt_Lend_words ?F_Lend_words ?F_Row_str ?F_Row_eq ?a_fn__law_parts_right ?F_parts_right ?a_fn__law_draw ?F_draw ?a_fn__law_pick ?F_pick ?a_fn__law_row ?F_row ?a_fn__law_mixed ?F_mixed ?a_fn__law_rows ?F_rows ?a_fn__law_row_text ?F_row_text ?a_fn_every_row ?F_every_row ?cr_Row_read ?cmt_Row_read ?F_Row_read ?a_fn_law ?F_law)
    (case a_WrapError => k_is)
    (case a_InvalidRow => k_is)
    (case a_InvalidText => k_is)
    (case a_Row => k_is)
    (case a_Keep => k_is)
    (case a_Tries => k_is)
    (case a_Limit => k_is)
    (case a_Leave => k_is)
    (case a_Soft => k_is)
    (case a_Count => k_is)
    (case a_Lend => k_is)
    (case z_int => k_is)
    (case z_abs => k_is)
    (case z_len => k_is)
    (case z_range => k_is)
    (case z_list => k_is)
    (case z_tuple => k_is)
    (case z_str => k_is)
    (case z_max => k_is)
    (case z_min => k_is)
    (case z_sorted => k_is)
    (case z_enumerate => k_is)
    (case z_zip => k_is)
    (case z_isinstance => k_is)
    (case z_bool => k_is)
    (case z_any => k_is)
    (case z_all => k_is)
    (case z_sum => k_is)
    (case cl_Row => (constructor <;> k_is))
    (case cl_Keep => (constructor <;> k_is))
    (case cl_Tries => (constructor <;> k_is))
    (case cl_Limit => (constructor <;> k_is))
    (case cl_Leave => (constructor <;> k_is))
    (case cl_Soft => (constructor <;> k_is))
    (case cl_Count => (constructor <;> k_is))
    (case cl_Lend => (constructor <;> k_is))
    (case oc_n => k_is)
    (case oc_t => k_is)
    (case ca_Row => k_is)
    (case cm_Row => k_is)
    (case ca_Keep => k_is)
    (case cm_Keep => k_is)
    (case ca_Tries => k_is)
    (case cm_Tries => k_is)
    (case ca_Limit => k_is)
    (case cm_Limit => k_is)
    (case ca_Leave => k_is)
    (case cm_Leave => k_is)
    (case ca_Soft => k_is)
    (case cm_Soft => k_is)
    (case ca_Count => k_is)
    (case cm_Count => k_is)
    (case ca_Lend => k_is)
    (case cm_Lend => k_is)
    (case no_many_Row => k_is)
    (case no_many_Keep => k_is)
    (case no_many_Tries => k_is)
    (case no_many_Limit => k_is)
    (case no_many_Leave => k_is)
    (case no_many_Soft => k_is)
    (case no_many_Count => k_is)
    (case no_many_Lend => k_is)
    (case no_on_Row => k_is)
    (case no_on_Keep => k_is)
    (case no_on_Tries => k_is)
    (case no_on_Limit => k_is)
    (case no_on_Leave => k_is)
    (case no_on_Soft => k_is)
    (case no_on_Count => k_is)
    (case no_on_Lend => k_is)
    (case no_life_Row => k_is)
    (case no_life_Keep => k_is)
    (case no_life_Tries => k_is)
    (case no_life_Limit => k_is)
    (case no_life_Leave => k_is)
    (case no_life_Soft => k_is)
    (case no_life_Count => k_is)
    (case no_life_Lend => k_is)
    (case no_what_Row => k_is)
    (case no_what_Keep => k_is)
    (case no_what_Tries => k_is)
    (case no_what_Limit => k_is)
    (case no_what_Leave => k_is)
    (case no_what_Soft => k_is)
    (case no_what_Count => k_is)
    (case no_what_Lend => k_is)
    (case st_Row_bool => k_is)
    (case st_Keep_bool => k_is)
    (case st_Tries_bool => k_is)
    (case st_Limit_bool => k_is)
    (case st_Leave_bool => k_is)
    (case st_Soft_bool => k_is)
    (case st_Count_bool => k_is)
    (case st_Lend_bool => k_is)
    (case st_Row_int => k_is)
    (case st_Keep_int => k_is)
    (case st_Tries_int => k_is)
    (case st_Limit_int => k_is)
    (case st_Leave_int => k_is)
    (case st_Soft_int => k_is)
    (case st_Count_int => k_is)
    (case st_Lend_int => k_is)
    (case ic_Row => k_is)
    (case tc_Row => k_is)
    (case sb_NoneType_Row => k_is)
    (case sb_bool_Row => k_is)
    (case sb_int_Row => k_is)
    (case sb_str_Row => k_is)
    (case sb_list_Row => k_is)
    (case sb_tuple_Row => k_is)
    (case ss_Row_Row => first | rfl | k_is)
    (case ss_Keep_Row => k_is)
    (case ss_Tries_Row => k_is)
    (case ss_Limit_Row => k_is)
    (case ss_Leave_Row => k_is)
    (case ss_Soft_Row => k_is)
    (case ss_Count_Row => k_is)
    (case ss_Lend_Row => k_is)
    (case z_repr => k_is)
    (case g_MOST_TRIES => k_is)
    (case l_MOST_TRIES => k_is)
    (case g_FAULTS => k_is)
    (case l_FAULTS => k_is)
    (case g_LIVES => k_is)
    (case l_LIVES => k_is)
    (case g_KEPT_ANSWERS => k_is)
    (case l_KEPT_ANSWERS => k_is)
    (case g_MOST_ASKED => k_is)
    (case l_MOST_ASKED => k_is)
    (case mo_Lend => (constructor <;> k_is))
    (case mo_Count => (constructor <;> k_is))
    (case mo_Leave => (constructor <;> k_is))
    (case mk_Keep => (constructor <;> k_is))
    (case mk_Tries => (constructor <;> k_is))
    (case mk_Limit => (constructor <;> k_is))
    (case mk_Soft => (constructor <;> k_is))
    (case own_Row => (constructor; (constructor <;> k_is); all_goals k_is))
    (case own_Keep => (constructor; (constructor <;> k_is); all_goals k_is))
    (case own_Tries => (constructor; (constructor <;> k_is); all_goals k_is))
    (case own_Limit => (constructor; (constructor <;> k_is); all_goals k_is))
    (case own_Leave => (constructor; (constructor <;> k_is); all_goals k_is))
    (case own_Soft => (constructor; (constructor <;> k_is); all_goals k_is))
    (case own_Count => (constructor; (constructor <;> k_is); all_goals k_is))
    (case own_Lend => (constructor; (constructor <;> k_is); all_goals k_is))
    (case nf_Keep_Keep => k_is)
    (case nf_Keep_Tries => k_is)
    (case nf_Keep_Limit => k_is)
    (case nf_Keep_Leave => k_is)
    (case nf_Keep_Soft => k_is)
    (case nf_Keep_Count => k_is)
    (case nf_Keep_Lend => k_is)
    (case nf_Tries_Keep => k_is)
    (case nf_Tries_Tries => k_is)
    (case nf_Tries_Limit => k_is)
    (case nf_Tries_Leave => k_is)
    (case nf_Tries_Soft => k_is)
    (case nf_Tries_Count => k_is)
    (case nf_Tries_Lend => k_is)
    (case nf_Limit_Keep => k_is)
    (case nf_Limit_Tries => k_is)
    (case nf_Limit_Limit => k_is)
    (case nf_Limit_Leave => k_is)
    (case nf_Limit_Soft => k_is)
    (case nf_Limit_Count => k_is)
    (case nf_Limit_Lend => k_is)
    (case nf_Leave_Keep => k_is)
    (case nf_Leave_Tries => k_is)
    (case nf_Leave_Limit => k_is)
    (case nf_Leave_Leave => k_is)
    (case nf_Leave_Soft => k_is)
    (case nf_Leave_Count => k_is)
    (case nf_Leave_Lend => k_is)
    (case nf_Soft_Keep => k_is)
    (case nf_Soft_Tries => k_is)
    (case nf_Soft_Limit => k_is)
    (case nf_Soft_Leave => k_is)
    (case nf_Soft_Soft => k_is)
    (case nf_Soft_Count => k_is)
    (case nf_Soft_Lend => k_is)
    (case nf_Count_Keep => k_is)
    (case nf_Count_Tries => k_is)
    (case nf_Count_Limit => k_is)
    (case nf_Count_Leave => k_is)
    (case nf_Count_Soft => k_is)
    (case nf_Count_Count => k_is)
    (case nf_Count_Lend => k_is)
    (case nf_Lend_Keep => k_is)
    (case nf_Lend_Tries => k_is)
    (case nf_Lend_Limit => k_is)
    (case nf_Lend_Leave => k_is)
    (case nf_Lend_Soft => k_is)
    (case nf_Lend_Count => k_is)
    (case nf_Lend_Lend => k_is)
    (case mr_Row_str => k_is)
    (case mr_Row_tuple => k_is)
    (case mr_Row_NoneType => k_is)
    (case mr_Keep_str => k_is)
    (case mr_Keep_tuple => k_is)
    (case mr_Keep_NoneType => k_is)
    (case mr_Tries_str => k_is)
    (case mr_Tries_tuple => k_is)
    (case mr_Tries_NoneType => k_is)
    (case mr_Limit_str => k_is)
    (case mr_Limit_tuple => k_is)
    (case mr_Limit_NoneType => k_is)
    (case mr_Leave_str => k_is)
    (case mr_Leave_tuple => k_is)
    (case mr_Leave_NoneType => k_is)
    (case mr_Soft_str => k_is)
    (case mr_Soft_tuple => k_is)
    (case mr_Soft_NoneType => k_is)
    (case mr_Count_str => k_is)
    (case mr_Count_tuple => k_is)
    (case mr_Count_NoneType => k_is)
    (case mr_Lend_str => k_is)
    (case mr_Lend_tuple => k_is)
    (case mr_Lend_NoneType => k_is)
    (case a_fn_check_argument => k_is)
    (case F_check_argument => (first | exact L2.fun_mk (by k_is) (by k_is) (by k_is) | (refine' L2.fun_mk ?_ ?_ ?_ <;> try k_is)))
    (case a_fn_is_integer => k_is)
    (case F_is_integer => (first | exact L2.fun_mk (by k_is) (by k_is) (by k_is) | (refine' L2.fun_mk ?_ ?_ ?_ <;> try k_is)))
    (case a_fn_is_one_of => k_is)
    (case F_is_one_of => (first | exact L2.fun_mk (by k_is) (by k_is) (by k_is) | (refine' L2.fun_mk ?_ ?_ ?_ <;> try k_is)))
    (case F_Limit_init => (first | exact L2.fun_mk (by k_is) (by k_is) (by k_is) | (refine' L2.fun_mk ?_ ?_ ?_ <;> try k_is)))
    (case F_Soft_init => (first | exact Vs.fund_mk (by k_is) (by k_is) (by k_is) (by exact (.cons ⟨_, rfl⟩ .nil)) (List.cons_ne_nil _ _) (by k_is) | (refine' Vs.fund_mk ?_ ?_ ?_ ?_ (List.cons_ne_nil _ _) ?_ <;> first | k_is | exact (.cons ⟨_, rfl⟩ .nil) | skip)))
    (case F_Keep_init => (first | exact Vs.fund_mk (by k_is) (by k_is) (by k_is) (by exact (.cons ⟨_, rfl⟩ (.cons rfl .nil))) (List.cons_ne_nil _ _) (by k_is) | (refine' Vs.fund_mk ?_ ?_ ?_ ?_ (List.cons_ne_nil _ _) ?_ <;> first | k_is | exact (.cons ⟨_, rfl⟩ (.cons rfl .nil)) | skip)))
    (case F_Tries_init => (first | exact Vs.fund_mk (by k_is) (by k_is) (by k_is) (by exact (.cons ⟨_, rfl⟩ .nil)) (List.cons_ne_nil _ _) (by k_is) | (refine' Vs.fund_mk ?_ ?_ ?_ ?_ (List.cons_ne_nil _ _) ?_ <;> first | k_is | exact (.cons ⟨_, rfl⟩ .nil) | skip)))
    (case a_fn__law_every => k_is)
    (case F_every => (first | exact L2.fun_mk (by k_is) (by k_is) (by k_is) | (refine' L2.fun_mk ?_ ?_ ?_ <;> try k_is)))
    (case a_fn__law_source => k_is)
    (case F_source => (first | exact L2.fun_mk (by k_is) (by k_is) (by k_is) | (refine' L2.fun_mk ?_ ?_ ?_ <;> try k_is)))
    (case mt_Keep_words => (constructor <;> k_is))
    (case F_Keep_words => (first | exact L2.fun_mk (by k_is) (by k_is) (by k_is) | (refine' L2.fun_mk ?_ ?_ ?_ <;> try k_is)))
    (case mt_Tries_words => (constructor <;> k_is))
    (case F_Tries_words => (first | exact L2.fun_mk (by k_is) (by k_is) (by k_is) | (refine' L2.fun_mk ?_ ?_ ?_ <;> try k_is)))
    (case mt_Limit_words => (constructor <;> k_is))
    (case F_Limit_words => (first | exact L2.fun_mk (by k_is) (by k_is) (by k_is) | (refine' L2.fun_mk ?_ ?_ ?_ <;> try k_is)))
    (case mt_Leave_words => (constructor <;> k_is))
    (case F_Leave_words => (first | exact L2.fun_mk (by k_is) (by k_is) (by k_is) | (refine' L2.fun_mk ?_ ?_ ?_ <;> try k_is)))
    (case mt_Soft_words => (constructor <;> k_is))
    (case F_Soft_words => (first | exact L2.fun_mk (by k_is) (by k_is) (by k_is) | (refine' L2.fun_mk ?_ ?_ ?_ <;> try k_is)))
    (case mt_Count_words => (constructor <;> k_is))
    (case F_Count_words => (first | exact L2.fun_mk (by k_is) (by k_is) (by k_is) | (refine' L2.fun_mk ?_ ?_ ?_ <;> try k_is)))
    (case mt_Lend_words => (constructor <;> k_is))
    (case F_Lend_words => (first | exact L2.fun_mk (by k_is) (by k_is) (by k_is) | (refine' L2.fun_mk ?_ ?_ ?_ <;> try k_is)))
    (case F_Row_str => (first | exact L2.fun_mk (by k_is) (by k_is) (by k_is) | (refine' L2.fun_mk ?_ ?_ ?_ <;> try k_is)))
    (case F_Row_eq => (first | exact L2.fun_mk (by k_is) (by k_is) (by k_is) | (refine' L2.fun_mk ?_ ?_ ?_ <;> try k_is)))
    (case a_fn__law_parts_right => k_is)
    (case F_parts_right => (first | exact L2.fun_mk (by k_is) (by k_is) (by k_is) | (refine' L2.fun_mk ?_ ?_ ?_ <;> try k_is)))
    (case a_fn__law_draw => k_is)
    (case F_draw => (first | exact L2.fun_mk (by k_is) (by k_is) (by k_is) | (refine' L2.fun_mk ?_ ?_ ?_ <;> try k_is)))
    (case a_fn__law_pick => k_is)
    (case F_pick => (first | exact L2.fun_mk (by k_is) (by k_is) (by k_is) | (refine' L2.fun_mk ?_ ?_ ?_ <;> try k_is)))
    (case a_fn__law_row => k_is)
    (case F_row => (first | exact L2.fun_mk (by k_is) (by k_is) (by k_is) | (refine' L2.fun_mk ?_ ?_ ?_ <;> try k_is)))
    (case a_fn__law_mixed => k_is)
    (case F_mixed => (first | exact L2.fun_mk (by k_is) (by k_is) (by k_is) | (refine' L2.fun_mk ?_ ?_ ?_ <;> try k_is)))
    (case a_fn__law_rows => k_is)
    (case F_rows => (first | exact L2.fun_mk (by k_is) (by k_is) (by k_is) | (refine' L2.fun_mk ?_ ?_ ?_ <;> try k_is)))
    (case a_fn__law_row_text => k_is)
    (case F_row_text => (first | exact L2.fun_mk (by k_is) (by k_is) (by k_is) | (refine' L2.fun_mk ?_ ?_ ?_ <;> try k_is)))
    (case a_fn_every_row => k_is)
    (case F_every_row => (first | exact L2.fun_mk (by k_is) (by k_is) (by k_is) | (refine' L2.fun_mk ?_ ?_ ?_ <;> try k_is)))
    (case cr_Row_read => (constructor <;> k_is))
    (case cmt_Row_read => (first | exact Vs.cmet_mk (by k_is) (by k_is) (by k_is) | (refine' Vs.cmet_mk ?_ ?_ ?_ <;> try k_is)))
    (case F_Row_read => (first | exact L2.fun_mk (by k_is) (by k_is) (by k_is) | (refine' L2.fun_mk ?_ ?_ ?_ <;> try k_is)))
    (case a_fn_law => k_is)
    (case F_law => (first | exact L2.fun_mk (by k_is) (by k_is) (by k_is) | (refine' L2.fun_mk ?_ ?_ ?_ <;> try k_is)))
