import PyProof.Rows.All
import Wide.All
import OpenK.AllK
import Wide.FinOn
import HandS.ForMost
import HandS.ClsMeth
import HandS.Defaults
import HandS.IsInst
import HandS.Star
import HandS.Codes
import HandS.RaiseMore
import HandS.Style
import KE.GoesEnum
import OpenK.KOps
import HandS.CallLocal
import HandS.Conv
import HandS.OwnEq
import KE.GoesZip
import KE.GoesMore
import HandS.Iter
import HandS.Comp
import PyProof.MeetsIn
import PyProof.EqKinds
import HandS.Exc
import HandS.ExcInit
import HandS.ExcOwn
import HandS.ExcField
import HandS.ExcIs
import HandS.WordsExc
import KE.KExcIs
import KE.KIsAll
import HandS.ExcCtx
import HandS.Hot
import HandS.HotCalls
import HandS.SuiteRaise
import HandS.RaiseFrom
import HandS.ExcInitHot
import HandS.TupAny
import HandS.TupMul
import KE.KIndexOf
import KE.KDictKeyed
import HandS.CallSlots
import HandS.NoneIn
import HandS.Lambda
import HandS.Wide
import HandS.Deep
import HandS.Text
import HandS.SortInts
import PyProof.Rows.SortShellAny
import HandS.MakeKwOnly
import PyProof.StrBlock2
import HandS.HeadHook3
import KE.KDictDisplayH
import HandS.DictComp
import HandS.Property
import HandS.TupLe
import HandS.More
import HandS.Nested
import KE.KNest
import KE.OsRunLaw
import PyProof.ReprRoads
import KE.KDictCopyH
import HandS.EndTab
import HandS.EndOwn
import HandS.Ends
import HandS.FStr
import PyProof.P3In
import KE.KDictList
import KE.SortData
import KE.KSortTup
import HandS.Zip
import KE.SortKeyHeap
import KE.DataMinKey
import KE.KRevSl
import PyProof.Rows.CountFlat
import HandS.TryOnly
import PyProof.SumWalkG
import PyProof.WalksMore
import PyProof.Rows.TupIter
import PyProof.Rows.SumAny
import KE.KExcSuper
import KE.KSuper
import PySem.Challenge.RW_outermost_k35_stacks_in_an_order
set_option Elab.async false
set_option linter.all false
set_option maxRecDepth 100000
set_option maxHeartbeats 4000000
section
namespace Own
open PySem PySem.Spec PyProof.Rows L2

section
variable {prog : Program} {w : World} {M : Model} {A : Around} {E : Value → Shared → Prop} {s : Shared} {K : PySem.W.Frag} {x C f : Addr} {ox : Obj} {od : Option Obj}
theorem ifBound_B {name : Str} {id : String} {args : List Value} {Q : Option Value → Shared → Prop} (X : K.In s.heap) (I : PySem.W.InstAt s.heap x ox C od) (hs : PySem.W.findIn K (.ref C) name = some (some (.builtin id)))
    (hb : ∀ self, bindSpecial (.builtin id) self = pure (.builtin id, [self])) (h : wpAny M A (call (.builtin id) (.ref x :: args)) (fun v => Q (some v)) E s) : wpAny M A (callSpecialIfBound? (.ref x) name args) Q E s := by
  simp only [callSpecialIfBound?, bindSpecialIfBound?]
  refine wpAny_holding (wpAny_bind (wpAny_bind (wpAny_bind (I.type.here ((PySem.W.looks_findIn X hs).here ?_)))))
  refine wpAny_bind (wpAny_askSetting (wpAny_ite ?_))
  have fin : wpAny M A (call (.builtin id) ([.ref x] ++ args) >>= fun v => pure (some v)) Q E s := wpAny_bind (wpAny_mono h (fun v s' h' => wpAny_pure h') fun _ _ h' => h')
  split
  · exact wpAny_bind ((PySem.W.Looks.of_pure (hb _)).here (wpAny_pure (by exact fin)))
  · exact wpAny_tryCatch (wpAny_bind ((PySem.W.Looks.of_pure (hb _)).here (wpAny_pure (by exact fin))))
open Builtin in
theorem objNe {b : Value} {Q : Value → Shared → Prop} (hu : A.in1.units < cLine) (X : K.In s.heap) (I : PySem.W.InstAt s.heap x ox C od) (hm : PySem.W.mroIn K C (.type "object") = some true) (he : PySem.W.findIn K (.ref C) "__eq__" = some (some (.ref f))) (hf : PySem.W.isFn K (.ref f) = true)
    (h : wpAny (model prog w) A.in1 (call (.ref f) [.ref x, b]) (fun v s' => ∃ r, v = .bool r ∧ Q (.bool (!r)) s') E s) : wpAny (model prog w) A (call (.builtin "object.__ne__") [.ref x, b]) Q E s := by
  refine wpAny_call (codeAny_call_builtin PySem.F.cmp_object.ne.plain PySem.F.cmpEntry_ne (@PySem.W.check_slot (model prog w) _ _ s "object.__ne__" "object" "__ne__" (.ref x) [b] [] _ PySem.F.cmpKind_ne PySem.F.cmpSplit_ne (I.type.andThen (PySem.W.looks_mroIn X hm)) (PySem.F.cmpArgs_ne _ _) ?_))
  unfold Builtin.«object.__ne__»
  refine wpAny_bind (m := slotArgs "__ne__" 1 _) (wpAny_pure ?_)
  refine wpAny_bind (m := cRoomFor _ _) (wpAny_cRoomFor hu ?_)
  refine wpAny_bind (m := callSpecialIfBound? (.ref x) (Str.ofString "__eq__") _) (PySem.W.ifBound_K X I he hf (wpAny_mono h (fun r s' hq => ?_) fun _ _ y => y))
  obtain ⟨r, rfl, q⟩ := hq
  refine wpAny_bind (m := truthy (.bool r)) (wpAny_truthy_bool ?_)
  exact wpAny_pure q
theorem ne_K {b tb : Value} {Q : Value → Shared → Prop} (hu : A.units + 1 < cLine) (X : K.In s.heap) (I : PySem.W.InstAt s.heap x ox C od) (hb : PySem.W.Looks (model prog w) s.heap (typeOf b) tb) (hn : PySem.W.notFirst K C tb = true)
    (hs : PySem.W.findIn K (.ref C) "__ne__" = some (some (.builtin "object.__ne__"))) (hm : PySem.W.mroIn K C (.type "object") = some true) (he : PySem.W.findIn K (.ref C) "__eq__" = some (some (.ref f))) (hf : PySem.W.isFn K (.ref f) = true)
    (h : wpAny (model prog w) A.in1 (call (.ref f) [.ref x, b]) (fun v s' => ∃ r, v = .bool r ∧ Q (.bool (!r)) s') E s) : wpAny (model prog w) A (richCompare .NotEq (.ref x) b) Q E s := by
  have one : wpAny (model prog w) A (tryCompare (.ref x) (cmpInfo .NotEq).2.1 b) (fun r s' => ∃ v, r = some v ∧ Q v s') E s := by
    unfold tryCompare
    refine wpAny_bind (ifBound_B X I hs PySem.F.cmp_object.ne.bind (objNe (show A.units + 1 < cLine from hu) X I hm he hf (wpAny_mono h (fun v s' hv => ?_) fun _ _ e => e)))
    obtain ⟨r, rfl, q⟩ := hv
    exact ⟨r, rfl, wpAny_pure ⟨_, rfl, q⟩⟩
  unfold richCompare
  simp only [oneThing_ref]
  refine wpAny_holding (wpAny_bind (wpAny_cRoomFor (Nat.lt_of_succ_lt hu) ?_))
  refine wpAny_bind (I.type.here (wpAny_bind (hb.here ?_)))
  split
  · rename_i q
    have e : PySem.W.subIn K tb (.ref C) = some false := by
      rcases Bool.or_eq_true_iff.mp hn with e | e
      · rw [beq_iff_eq.mp e] at q; simp at q
      · exact beq_iff_eq.mp e
    refine wpAny_bind ((PySem.W.looks_subIn X e).here ?_)
    simp only [Bool.false_eq_true, if_false]
    refine wpAny_bind (wpAny_mono one (fun r s' z => ?_) fun _ _ e => e)
    obtain ⟨v, rfl, hq⟩ := z
    exact wpAny_pure hq
  · refine wpAny_bind (wpAny_pure ?_)
    simp only [Bool.false_eq_true, if_false]
    refine wpAny_bind (wpAny_mono one (fun r s' z => ?_) fun _ _ e => e)
    obtain ⟨v, rfl, hq⟩ := z
    exact wpAny_pure hq
end

structure OwnC (K : PySem.W.Frag) (C : Addr) (gs ge : Addr) : Prop where
  cl : Cls K C
  st : PySem.W.findIn K (.ref C) "__str__" = some (some (.ref gs))
  stf : PySem.W.isFn K (.ref gs) = true
  eq : PySem.W.findIn K (.ref C) "__eq__" = some (some (.ref ge))
  eqf : PySem.W.isFn K (.ref ge) = true
  ne : PySem.W.findIn K (.ref C) "__ne__" = some (some (.builtin "object.__ne__"))
  ca : PySem.W.findIn K (.ref C) "__class__" = some (some (.builtin "object.__class__"))
  cn : PySem.W.specialIn K (.builtin "object.__class__") "__get__" = some (some (.builtin "getset_descriptor.__get__"))
  ct : PySem.W.takesIn K (.builtin "object.__class__") = some true
  cm : PySem.W.mroIn K C (.type "object") = some true
section
variable {X : Cx} {CX : CXT} {pins : List (Addr × Obj)} {σ : L2.St} {H : Hp} {s : Shared} {gs ge : Addr} {n : Nat} {sp : Sp} {E : XK}
theorem run_at {A : Around} {g : Addr} {Q : VK} {us : List Value} {ws : List V} (F : FnR X.prog X.w X.K X.mg X.base CX n g sp) (hr : Room n A) (e0 : Env0 X.prog X.w X.K X.mg X.base A X.stack s H) (hx : Passes CX X E) (I : Inv X pins σ H s) (r : Vals ws us) (h : sp ws H Q E) :
    codeAny (model X.prog X.w) A (.call (.ref g) ⟨us, []⟩) (fun r s' => match r with | .ok (.ret v) => EP X pins σ Q v s' | .ok _ => False | .error e => X.xe e s') s := by
  refine codeAny_mono (F A X.stack s H us ws Q E hr e0 r h) fun r s' hq => ?_
  cases r with
  | error e => exact hx pins σ H s e s' I hq
  | ok fl =>
    cases fl with
    | ret u => exact I.after hq
    | next => exact False.elim hq
    | brk => exact False.elim hq
    | cont => exact False.elim hq
def rStrOwn (K : PySem.W.Frag) (gs : Addr) (sp : Sp) (E : XK) : List V → Hp → VK → Prop := fun xs H Q => ∃ a C dx fs ge, xs = [V.ref a] ∧ H a = some (.ins C dx fs) ∧ OwnC K C gs ge ∧ sp [.ref a] H (fun z H' => ∃ y, z = .str y ∧ Q z H') E
theorem call_strOwn (F : FnR X.prog X.w X.K X.mg X.base CX n gs sp) (hr : Room (n + 2) X.A) (hx : Passes CX X E) : CallR X (.type "str") (rStrOwn X.K gs sp E) := by
  intro pins s σ H xs us Q I r h
  obtain ⟨a, C, dx, fs, ge, rfl, ea, c, q⟩ := h
  obtain ⟨u, rfl, ru⟩ := r.one
  cases (show u = Value.ref a from ru)
  obtain ⟨mA, O, rr, _, _, _⟩ := ins_get I.hok ea
  obtain ⟨od, J, hl⟩ := O.look
  have hr2 : Room n X.A.in1.in1 := (show Room (n + 1) X.A.in1 from Room.in1 hr).in1
  refine PySem.W.kso_call hr2.units0 I.kIn J c.st c.stf (wpAny_mono (wpAny_call (run_at (us := [.ref a]) (ws := [.ref a]) F hr2 I.env0.in1.in1 hx I (.cons rfl .nil) q)) (fun w s' z => ?_) fun _ _ x => x)
  obtain ⟨z', H', I', rz, y, ey, qz⟩ := z
  subst ey
  obtain ⟨t, e⟩ := (show ∃ t, w = Value.str y t from rz)
  cases e
  exact ⟨.str y, H', I', ⟨t, rfl⟩, qz⟩
def rEqOwn (K : PySem.W.Frag) (ge : Addr) (sp : Sp) (E : XK) (f : Bool → Bool) : R2 := fun x y H Q => ∃ a C dx fs gs t, x = .ref a ∧ H a = some (.ins C dx fs) ∧ OwnC K C gs ge ∧ TyX K H y t ∧ PySem.W.notFirst K C t = true ∧ sp [x, y] H (fun z H' => ∃ b, z = .bl b ∧ Q (.bl (f b)) H') E
theorem op_neOwn (F : FnR X.prog X.w X.K X.mg X.base CX n ge sp) (hr : Room (n + 1) X.A) (hx : Passes CX X E) : OpR X (compareOp .NotEq) (rEqOwn X.K ge sp E not) := by
  intro pins s σ H x y v u Q I rx ry h
  obtain ⟨a, C, dx, fs, gs, t, rfl, ea, c, ty, hn, q⟩ := h
  cases (show v = Value.ref a from rx)
  obtain ⟨mA, O, rr, _, _, _⟩ := ins_get I.hok ea
  obtain ⟨od, J, hl⟩ := O.look
  obtain ⟨P, Z, p, _⟩ := kit_of I ry ty
  show wpAny (model X.prog X.w) X.A (richCompare .NotEq (.ref a) u) (EP X pins σ Q) X.xe s
  have hr1 : Room n X.A.in1 := hr.in1
  refine ne_K (hr1.units0) I.kIn J (Z.ty _ _ I.kIn p) hn c.ne c.cm c.eq c.eqf ?_
  refine wpAny_mono (wpAny_call (run_at (us := [.ref a, u]) (ws := [.ref a, y]) F hr1 I.env0.in1 hx I (.cons rfl (.cons ry .nil)) q)) (fun w s' z => ?_) fun _ _ x => x
  obtain ⟨z', H', I', rz, b, eb, qz⟩ := z
  subst eb
  cases (show w = Value.bool b from rz)
  exact ⟨b, rfl, .bl (!b), H', I', rfl, qz⟩
end

structure MkO (K : PySem.W.Frag) (C : Addr) : Prop where
  makes : PySem.W.makesIn K C = true
  init : PySem.W.findIn K (.ref C) "__init__" = some (some (.builtin "object.__init__"))
  kp : PySem.W.keepIn K (.ref C) = true
  cm : PySem.W.mroIn K C (.type "object") = some true
def tMakeO (C : Addr) : TE := fun _ H Q => ∀ x dx, H x = none → H dx = none → dx ≠ x → Q (.ref x) (upd (upd H dx (.own x)) x (.ins C dx []))
section
variable {X : Cx} {pins : List (Addr × Obj)} {σ : L2.St} {H : Hp} {s : Shared} {C : Addr} {x : Str} {p pos : Pos}
theorem run_makeO {Q : VK} (M : MkO X.K C) (I : Inv X pins σ H s) (h : tMakeO C σ H Q) : wpAny (model X.prog X.w) X.A (call (.ref C) []) (EP X pins σ Q) X.xe s := by
  have hq := h (s.heap.objs.size + 1) s.heap.objs.size (I.hok.fresh (Nat.le_succ _)) (I.hok.fresh (Nat.le_refl _)) (Nat.ne_of_lt (Nat.lt_succ_self _))
  have I2 := Inv.made (C := C) I
  have hx : ((s.heap.push PySem.W.emptyDict).push (PySem.W.instObj C s.heap.objs.size)).get? (s.heap.objs.size + 1) = some (PySem.W.instObj C s.heap.objs.size) := by
    have := Heap.get?_push_size (s.heap.push PySem.W.emptyDict) (o := PySem.W.instObj C s.heap.objs.size) rfl
    rwa [Heap.size_push] at this
  have t1 : PySem.W.Looks (model X.prog X.w) ((s.heap.push PySem.W.emptyDict).push (PySem.W.instObj C s.heap.objs.size)) (typeOf (.ref (s.heap.objs.size + 1))) (.ref C) := (PySem.W.Looks.ld hx).andThen .now
  refine wpAny_call (make_map0 I.kIn M.makes M.init (fun self => PySem.W.Looks.of_pure (PySem.W.oi_bind self)) ?_)
  refine codeAny_call_builtin PySem.W.oi_plain PySem.W.entry_oi (@PySem.W.check_slot (model X.prog X.w) _ _ _ "object.__init__" "object" "__init__" (.ref (s.heap.objs.size + 1)) [] [] _ PySem.W.oi_kind PySem.W.oi_split (t1.andThen (PySem.W.looks_mroIn I2.kIn M.cm)) (PySem.W.oi_args _) ?_)
  rw [PySem.W.oi_run]
  exact wpAny_pure (And.intro rfl ⟨V.ref (s.heap.objs.size + 1), _, I2, rfl, hq⟩)
theorem pe_makeO (M : MkO X.K C) (hg : Gl X x) (hm : X.mg x = some (.ref C)) (hdb : (x == ("__debug__" : Str)) = false := by decide) : PE X (.Call (.Name x p) [] [] pos) (tMakeO C) := by
  refine ⟨fun pins s σ H Q I h => ?_⟩
  refine wpAny_Call_Name_kw (ld_glob I hg hm ?_ hdb)
  exact PySem.W.callWith_K0 I.kIn M.kp (run_makeO M I h)
end
end Own
end
section
namespace Own
open PySem PySem.Spec PyProof.Rows L2
open Sem (wp)
open AutoSeq1 (wpAny_loadPart')
abbrev enumO (n : Nat) : Obj := { cls := .type "enumerate", data := .fields #[.none, .bool false, .ref n, rawInt 0, .none, .none] }
theorem enum_mk1 {v : Value} {o : Obj} {Hh : Heap → Prop} (B : Begins v o Hh) :
    Meets (Builtin.«enumerate.__new__» ⟨[.type "enumerate", v], []⟩) (fun _ R z => Hh z.heap ∧ R (.ok (.ret (.ref (z.heap.push o).objs.size))) { z with heap := (z.heap.push o).push (enumO z.heap.objs.size) }) :=
  .of_wp fun pr wo Ar Re sh hyp => by
    obtain ⟨hp, ge, dr, tok, osx⟩ := sh
    obtain ⟨hb, hre⟩ := hyp
    have sbt := sub_enumerate
    have itr : ∀ {Aa : Around} {Ee : Value → Shared → Prop} {Qq : Value → Shared → Prop}, Qq (.ref hp.objs.size) ⟨hp.push o, ge, dr, tok, osx⟩ → wpAny (model pr wo) Aa (pyIter v) Qq Ee ⟨hp, ge, dr, tok, osx⟩ := fun q => B.iter pr wo _ _ ⟨hp, ge, dr, tok, osx⟩ _ hb q
    wp_walk using itr
    refine wpAny_stack_any fun stk => wpAny_pure ?_
    split
    · rename_i cl _ _ _ _ _
      cases (cl == Value.type "enumerate") <;> (wp_walk using itr; exact ⟨_, rfl, hre⟩)
    · wp_walk using itr
      exact ⟨_, rfl, hre⟩

section
variable {prog : Program} {w : World} {A : Around} {E : Value → Shared → Prop} {s : Shared}
theorem call_enum1 {v : Value} {o : Obj} {Hh : Heap → Prop} {Q : Value → Shared → Prop} (B : Begins v o Hh) (hb : Hh s.heap)
    (h : ∀ hp', IsEnum hp' (s.heap.objs.size + 1) s.heap.objs.size 0 .none → hp'.get? s.heap.objs.size = some o → (∀ b u, s.heap.get? b = some u → hp'.get? b = some u) → Q (.ref (s.heap.objs.size + 1)) { s with heap := hp' }) :
    wpAny (model prog w) A (call (.type "enumerate") [v]) Q E s := by
  refine callType_new F.called_enumerate (by decide) (F.typeCall_enumerate_1 _) (F.newCall_enumerate_1 _) (fun ob => F.args_object_init_2 ob _) F.entry_enumerate_new (enum_mk1 B) ⟨hb, ?_⟩
  have sz : (s.heap.push o).objs.size = s.heap.objs.size + 1 := Heap.size_push ..
  have ie : IsEnum ((s.heap.push o).push (enumO s.heap.objs.size)) (s.heap.objs.size + 1) s.heap.objs.size 0 .none := by
    have z := Heap.get?_push_size (s.heap.push o) (o := enumO s.heap.objs.size) rfl
    rw [sz] at z
    exact z
  show _ ∧ _
  rw [sz]
  exact ⟨⟨_, ie, rfl⟩, h _ ie (Heap.get?_push_of_some _ (Heap.get?_push_size _ B.free)) fun b u x => Heap.get?_push_of_some _ (Heap.get?_push_of_some _ x)⟩
end
theorem drawsEnd {prog : Program} {w : World} {A : Around} (hh : A.handled = none) (it t : Addr) (items : Array Value) (n : Nat) (hn : items.size ≤ n) :
    Draws prog w A it [it, t] n (fun _ _ => False) (fun j h => h.IsTupleIter it t j ∧ h.IsTuple t items ∧ n ≤ j) where
  live := fun _ _ st => let ⟨o, ho, _⟩ := st.1; ⟨o, ho⟩
  frame := fun _ _ _ st hk => ⟨st.1.at fun o e => hk it (by simp) o e, st.2.1.at fun o e => hk t (by simp) o e, st.2.2⟩
  item := fun i s Q E hi st _ => absurd hi (Nat.not_lt.mpr st.2.2)
  done := fun s Q E st hE => wpAny_nextOf_tuple_end hh st.1 st.2.1 (by simp; omega) hE
def IteT (K : PySem.W.Frag) (a : Addr) : It :=
  ⟨fun i H => ∃ (xs : List V) (x : V), SqT K H a xs ∧ xs[i]? = some x,
   fun i H v H' => ∃ T x, v = .ref T ∧ H T = none ∧ H' = upd H T (.tup [.int (i : Nat), x]) ∧ ∀ xs, SqT K H a xs → xs[i]? = some x,
   fun i H => ∃ xs : List V, SqT K H a xs ∧ xs.length ≤ i⟩
theorem turn_enumT {P : Program} {w : World} {K : PySem.W.Frag} {elts : List Expr} {kk : Nat} {tpos : Pos} (a e it : Addr) :
    Turn P w K (.Tuple elts kk tpos) (IteT K a) [e, it] e (fun i h => (∃ old, IsEnum h e it ((i : Nat) : Int) old) ∧ h.IsTupleIter it a i ∧ e ≠ it) where
  mem := by simp
  obj := fun i h st b hb => by
    have z : b = e ∨ b = it := by simpa using hb
    have k := st.2.1
    obtain ⟨u, he⟩ := st.1
    cases z with
    | inl z => exact z ▸ ⟨_, he, fun v q => nomatch q⟩
    | inr z =>
      obtain ⟨ob, h1, _, h3⟩ := k
      exact z ▸ ⟨ob, h1, fun v q => nomatch h3.symm.trans q⟩
  keep := fun i h h' st k => by
    obtain ⟨⟨old, he⟩, ⟨o, ho, hr⟩, hne⟩ := st
    exact ⟨⟨old, k e (by simp) _ he⟩, ⟨o, k it (by simp) o ho, hr⟩, hne⟩
  item := by
    intro X hP hw hK hc i pins s σ H E I hf st hg
    subst hP hw hK
    obtain ⟨⟨old, he⟩, hit, hne⟩ := st
    obtain ⟨xs, x, hq, hx⟩ := hg
    obtain ⟨its, rv, p, hz⟩ := I.tuple hq
    obtain ⟨u, hu, ru⟩ := rv.get hx
    have le : e < s.heap.objs.size := Heap.lt_size he
    have li : it < s.heap.objs.size := by obtain ⟨_, q, _⟩ := hit; exact Heap.lt_size q
    have ait : a ≠ it := fun z => by
      obtain ⟨o, ho, hcl, _⟩ := hit
      obtain ⟨o2, ho2, hcl2, _⟩ := p
      have q : o = o2 := Option.some.inj (ho.symm.trans ((congrArg _ z.symm).trans ho2))
      subst q
      exact absurd (hcl.symm.trans hcl2) (by decide)
    have ae : e ≠ a := fun z => by
      obtain ⟨o2, ho2, hcl2, _⟩ := p
      have q := Option.some.inj ((show s.heap.get? e = some _ from he).symm.trans ((congrArg _ z).trans ho2))
      subst q
      exact absurd (show Value.type "enumerate" = Value.type "tuple" from hcl2) (by decide)
    have D := Draws.tuple (prog := X.prog) (w := X.w) (A := X.A.in1) (show X.A.in1.handled = none from I.ok.hd hc) it a ait its.toArray
    have hlt : i < its.toArray.size := by
      have q := (List.getElem?_eq_some_iff.mp hu).1
      simpa using q
    refine wpAny_pyNext_enum_itemD D he ⟨hit, p⟩ hlt hne (by simp [hne, ae]) fun y h' tk hP ho hit' hT hsz hk => ?_
    have ey : y = u := by
      have q : its.toArray[i]? = some u := by simpa using hu
      exact Option.some.inj (hP.symm.trans q)
    subst ey
    refine ⟨_, rfl, wpAny_letOwnedTupleGo_enum (s := { s with heap := h', toks := tk + 1 }) ho fun h2 he2 sb => ?_⟩
    have nel : s.heap.objs.size ≠ e := Nat.ne_of_gt le
    have new : ObjOk X.prog X.w (upd H s.heap.objs.size (.tup [.int (i : Nat), x])) h2 s.heap.objs.size (.tup [.int (i : Nat), x]) :=
      ⟨by show 2 ≤ sizeLine; decide, [.int i tk, y], .cons ⟨_, rfl⟩ (.cons ru .nil), ⟨_, (sb.2 _ nel).trans hT, rfl, _, rfl⟩⟩
    have J : Inv X pins σ (upd H s.heap.objs.size (.tup [.int (i : Nat), x])) { s with heap := h2, toks := tk + 1 } :=
      I.turnedNew (ch := [e, it]) (fun b ob hb q => (sb.2 b (fun z => hb (by simp [z]))).trans (hk b ob (fun z => hb (by simp [z])) (fun z => hb (by simp [z])) q)) hf (Nat.le_refl _) new
    obtain ⟨oi, hoi, hri⟩ := hit'.1
    refine ⟨.ref s.heap.objs.size, _, J, rfl, ⟨_, x, rfl, I.hok.fresh (Nat.le_refl _), rfl, fun ys hy => ?_⟩, ⟨⟨y, ?_⟩, ⟨oi, (sb.2 it (Ne.symm hne)).trans hoi, hri⟩, hne⟩, fun b hb => ?_⟩
    · rw [I.tuple_inj hy hq]
      exact hx
    · rw [(by omega : ((i + 1 : Nat) : Int) = (i : Int) + 1)]
      exact he2
    · have lb : b < s.heap.objs.size := by
        rcases (by simpa using hb : b = e ∨ b = it) with z | z <;> rw [z] <;> assumption
      rw [upd_ne (Nat.ne_of_lt lb)]
      exact (hf b hb).1
  done := by
    intro X hP hw hK hc i pins s σ H E I hf st hg
    subst hP hw hK
    have hit := st.2.1
    obtain ⟨u, he⟩ := st.1
    obtain ⟨xs, hq, hx⟩ := hg
    obtain ⟨its, rv, p, hz⟩ := I.tuple hq
    have hl := rv.length
    have D := drawsEnd (prog := X.prog) (w := X.w) (A := X.A.in1) (show X.A.in1.handled = none from I.ok.hd hc) it a its.toArray i (by simp; omega)
    obtain ⟨f0, f1, f2, f3, f4, f5⟩ := hf it (by simp)
    exact wpAny_pyNext_enum_endD D he ⟨hit, p, Nat.le_refl _⟩ fun h' eb => ⟨rfl, I.turned (t' := s.toks) (fun b o hb q => eb b o hb q) f0 f1 f3 f4 f5⟩
  self := fun A i s Q E st h => let ⟨⟨_, he⟩, _⟩ := st; wpAny_pyIter_enum he h
def iEnumS (K : PySem.W.Frag) (ta : TA) : TI := fun σ H R => ta σ H fun vs H1 => ∃ a xs, vs = [.ref a] ∧ ((SqL K H1 a xs ∧ R (Ite K a) H1) ∨ (SqT K H1 a xs ∧ R (IteT K a) H1))
theorem pi_enumS {X : Cx} {e : Expr} {ta : TA} {p pos tpos : Pos} {elts : List Expr} {kk : Nat} (hg : Gl X "enumerate") (hm : X.mg "enumerate" = none) (ha : PA X [e] ta) (hs : starEach [e] X.env = [(false, eval e X.env)] := by rfl) :
    PI X (.Tuple elts kk tpos) (.Call (.Name "enumerate" p) [e] [] pos) (iEnumS X.K ta) := ⟨fun pins s σ H R I h => by
  refine Call_ (ld_blt I hg hm boot_enumerate (PyProof.Rows.callWith_type1 (thn (ha.run pos pins s σ H _ I h) fun us s1 w1 => ?_) hs rfl))
  obtain ⟨vs, H1, J, rr, a, xs, ex, q⟩ := w1
  subst ex
  have ru : us = [.ref a] := by
    cases rr with
    | cons r t => cases t; cases r; rfl
  subst ru
  have fpe : ∀ b ∈ [s1.heap.objs.size + 1, s1.heap.objs.size], FpOk X pins H1 b := fun b hb => by
    have hle : s1.heap.objs.size ≤ b := by
      have z : b = s1.heap.objs.size + 1 ∨ b = s1.heap.objs.size := by simpa using hb
      omega
    exact J.fpOk hle (J.hok.fresh hle)
  rcases q with ⟨hq, q⟩ | ⟨hq, q⟩
  · obtain ⟨its, rv, pl, hz⟩ := J.list hq
    exact call_enumerate_list pl.isList fun h' he hit hsz hk => wpAny_pyIter_enum he
      ⟨s1.heap.objs.size + 1, [s1.heap.objs.size + 1, s1.heap.objs.size], _, _, H1, rfl, (J.kept (t' := s1.toks) hk : Inv X pins σ H1 { s1 with heap := h' }), turn_enum a (s1.heap.objs.size + 1) s1.heap.objs.size, ⟨⟨.none, he⟩, hit, Nat.succ_ne_self _⟩, fpe, q⟩
  · obtain ⟨its, rv, pl, hz⟩ := J.tuple hq
    refine call_enum1 (begins_tuple a its.toArray) pl fun h' he hit hk => wpAny_pyIter_enum he ?_
    exact ⟨s1.heap.objs.size + 1, [s1.heap.objs.size + 1, s1.heap.objs.size], _, _, H1, rfl, (J.kept (t' := s1.toks) hk : Inv X pins σ H1 { s1 with heap := h' }), turn_enumT a (s1.heap.objs.size + 1) s1.heap.objs.size, ⟨⟨.none, he⟩, ⟨_, hit, rfl, rfl⟩, Nat.succ_ne_self _⟩, fpe, q⟩⟩
end Own
end
section
namespace Own
open PySem PySem.Spec PyProof.Rows L2
section
variable {X : Cx} {CX : CXT} {pins : List (Addr × Obj)} {σ : L2.St} {H : Hp} {s : Shared} {gl : Addr} {n : Nat} {sp : Sp} {E : XK}
end
section
variable {X : Cx} {CX : CXT} {k i : Nat} {C f : Addr} {fd : FuncData} {ps : List Str} {sp : Sp} {dvs : List V} {ds : List Value} {E : XK} {x : Str} {p pos : Pos} {e : Expr} {es : List Expr} {t : TA}
end
end Own
end
section
namespace Own
open PySem PySem.Spec PyProof.Rows L2
section
variable {X : Cx} {CX : CXT} {f : Addr} {n : Nat} {sp : Sp} {E : XK}
end
section
variable {prog : Program} {w : World} {A : Around} {E : Value → Shared → Prop} {s : Shared} {K : PySem.W.Frag} {x C L f : Addr} {h₀ : Heap} {m : Str → Option Value} {ox : Obj} {od : Option Obj}
end
section
variable {X : Cx} {CX : CXT} {f : Addr} {n : Nat} {sp : Sp} {E : XK}
end
end Own
end
section
namespace Own
open PySem PySem.SeqAt
open AutoSeq1 (wpAny_loadPart')
open MeetsSeq MeetsSeq2 MeetsSeq3 SeqRoads2
section
variable {prog : Program} {w : World} {A : Around} {R : Result → Shared → Prop}
def Two (l b : Addr) (N : Nat) (s : Shared) : Prop := ∃ (xs ys : Array Value) (n m : Nat), s.heap.get? l = some { cls := .type "list", data := .seq xs n } ∧ s.heap.get? b = some { cls := .type "list", data := .seq ys m } ∧ xs.size = N ∧ ys.size = N
def TwoI (prog : Program) (w : World) (A : Around) (R : Result → Shared → Prop) (ne : Bool) (l b : Addr) (N : Nat) (I : Nat → Shared → Prop) : Prop :=
  ∀ i s, I i s → ∃ (xs ys : Array Value) (n m : Nat), s.heap.get? l = some { cls := .type "list", data := .seq xs n } ∧ s.heap.get? b = some { cls := .type "list", data := .seq ys m } ∧ xs.size = N ∧ ys.size = N ∧
    ∀ (h1 : i < xs.size) (h2 : i < ys.size), wpAny (model prog w) A.in1 (eqBool xs[i] ys[i]) (fun r s' => (r = true ∧ I (i + 1) s') ∨ (r = false ∧ Two l b N s' ∧ R (.ok (.ret (.bool ne))) s')) (fun e s' => R (.error e) s') s
end
section
variable {prog : Program} {w : World} {A : Around} {E : Value → Shared → Prop} {s : Shared}
end
end Own
end
section
namespace Own
open PySem PySem.Spec PyProof.Rows L2
abbrev EqvB := V → V → Hp → Bool → Prop
section
variable {X : Cx} {n : Nat} {D : EqvB}
end
end Own
end
section
namespace Own
open PySem PySem.Spec PyProof.Rows L2
end Own
end
section
namespace Own
open PySem PySem.Spec PyProof.Rows L2
end Own
end
section
namespace Own
open PySem PySem.Spec PyProof.Rows L2 PySem.SeqAt
open AutoSeq1 (wpAny_loadPart')
open MeetsSeq MeetsSeq2 MeetsSeq3 SeqRoads2
section
variable {prog : Program} {w : World} {A : Around} {E : Value → Shared → Prop} {s : Shared} {K : PySem.W.Frag} {x C f : Addr} {od : Option Obj}
end
section
variable {X : Cx} {CX : CXT} {ge : Addr} {n : Nat} {sp : Sp} {E : XK}
end
end Own
end
section
namespace Own
open PySem PySem.Spec PyProof.Rows L2 ClX
section
variable {X : Cx} {CX : CXT} {k : Nat} {C p g : Addr} {mc : Value} {sp : Sp} {E : L2.St → XK} {o e : Expr} {es : List Expr} {m : Str} {pos apos : Pos} {ta : TE} {t : TA} {pl : Sem Bool}
def tCMethS (C : Addr) (sp : Sp) (E : L2.St → XK) (ta : TE) (t : TA) : TE := fun σ H Q => ta σ H fun x G => x = .ref C ∧ t σ G fun ws G' => sp (.ref C :: ws) G' Q (E σ)
theorem pe_cmethS (hO : PE X o ta) (hR : CRead X.K C mc) (hM : CMet X.K C mc m p g) (F : FnR X.prog X.w X.K X.mg X.base CX k g sp) (hr : Room k X.A) (hx : ∀ σ, PassesAt CX X σ (E σ)) (hA : PA X (e :: es) t)
    (h1 : starEach (e :: es) X.env = (false, eval e X.env) :: starEach es X.env := by rfl) (h2 : (backTo pos (starEach es X.env)).any (·.1) = false := by rfl)
    (h3 : eval (.Call (.Attribute o m apos) (e :: es) [] pos) X.env = (do
      let it ← eval o X.env
      standAt apos.atName
      let (fn, ahead) ← holding [it] (getMethod it m pl)
      callWith pos fn ahead (backTo pos (starEach (e :: es) X.env)) (backToKw pos (keywordEach [] X.env))) := by rfl) : PE X (.Call (.Attribute o m apos) (e :: es) [] pos) (tCMethS C sp E ta t) := by
  constructor
  intro pins s σ H Q I h
  refine PySem.W.methodCall_KW (pl := pl) (thn (hO.run pins s σ H _ I h) fun u s1 z => ?_) h3
  obtain ⟨x, G, J, rx, ex, q⟩ := z
  subst ex
  cases (show u = Value.ref C from rx)
  refine getmethcm_ok J hR hM fun s2 J2 => ?_
  refine callwith_cm J2 (base_none J (Nat.le_refl _)) hM.fi (thn (hA.run pos _ s2 σ G _ J2 q) fun us s3 y => ?_) h1 h2
  obtain ⟨ws, G2, J3, rv, q2⟩ := y
  refine ⟨⟨pin_at J3, J3.kIn⟩, ?_⟩
  have back : wpAny (model X.prog X.w) X.A (call (.ref s1.heap.objs.size) us) (EP X ((s1.heap.objs.size, PySem.W.methodObj (.ref g) (.ref C)) :: pins) σ Q) X.xe s3 := by
    refine wpAny_call (PySem.W.method_call (pin_at J3) (codeAny_mono (F X.A X.stack s3 G2 (.ref C :: us) (.ref C :: ws) Q (E σ) hr J3.env0 (.cons rfl rv) q2) fun r s4 z => ?_))
    match r, z with
    | .error err, z => exact hx σ _ G2 s3 err s4 J3 z
    | .ok (.ret v), z => exact J3.after z
    | .ok .next, z => exact z.elim
    | .ok .brk, z => exact z.elim
    | .ok .cont, z => exact z.elim
  exact thn back fun _ _ y => unpinE y
end
section
variable {X : Cx}
def rIsX (K : PySem.W.Frag) (D a : Addr) (cls : Value) (d : Option Addr) : List V → Hp → VK → Prop := fun xs H Q => ∃ (T : Addr) (b : Bool), xs = [.ref a, .ref T] ∧ cls = .ref D ∧ PySem.W.kitOne K (.ref D) (.ref T) = some b ∧ (d = none ∨ ∃ (dd : Addr) (fs : List (Str × V)), d = some dd ∧ H dd = some (.xd fs)) ∧ Q (.bl b) H
theorem call_isX {a D : Addr} {cls : Value} {d : Option Addr} {oe : Obj} {pn : List (Addr × Obj)} (C : L2.ExcC X.K D) (hz : Zc cls d oe) (hf : ∃ vs, oe.data = .fields vs) : CallR (X.suite a ((a, oe) :: pn)) (.builtin "isinstance") (rIsX X.K D a cls d) := by
  intro pins s σ H xs us Q I r h
  obtain ⟨T, b, rfl, rfl, hk, hd, q⟩ := h
  cases r with
  | cons r1 r2 =>
    cases r2 with
    | cons r3 r4 =>
      cases r4
      cases r1
      cases r3
      obtain ⟨hget, _⟩ := I.pin (a, oe) (List.mem_append.mpr (.inl List.mem_cons_self))
      obtain ⟨vs, hv⟩ := hf
      have JJ : ∃ od, PySem.W.InstAt s.heap a oe D od := by
        rcases hd with rfl | ⟨dd, fs, rfl, hd⟩
        · exact ⟨none, hget, hz.1, by unfold PySem.W.notCls; rw [hv] <;> rfl, by rw [hz.2]; exact True.intro⟩
        · have ok : ObjOk X.prog X.w H s.heap dd (.xd fs) := I.hok dd _ hd
          obtain ⟨mA, hns, hr⟩ := ok
          obtain ⟨od, ho, hl⟩ := lookIn_ns hns
          exact ⟨some od, hget, hz.1, by unfold PySem.W.notCls; rw [hv] <;> rfl, by rw [hz.2]; exact ho⟩
      obtain ⟨od, J⟩ := JJ
      have hcl : (PySem.W.clsIn X.K D).isSome = true := by
        obtain ⟨cd, hc, _⟩ := PySem.W.any_some C.hd
        rw [hc]; rfl
      refine PySem.W.kia_one (PySem.W.kitx_exc (ox := oe) (od := od) hcl C.hg C.hk C.hs C.ha C.hn C.ht C.hm) I.kIn J hk (fun z => nomatch z) fun tk => ?_
      exact ⟨.bl b, H, I.kept (t' := tk) fun _ _ z => z, rfl, q⟩
end
end Own
end
section
namespace Own
open PySem PySem.Spec PyProof.Rows L2
section
variable {X : Cx} {CX : CXT} {k : Nat} {f C : Addr} {fd : FuncData} {ps : List Str} {sp : Sp} {dvs : List V} {ds : List Value} {E : L2.St → XK} {x : Str} {p pos : Pos} {e : Expr} {es : List Expr} {t : TA}
theorem run_makeS {pins : List (Addr × Obj)} {σ : L2.St} {H : Hp} {s : Shared} {Q : VK} {us : List Value} {vs : List V} (M : Mk X.K C f) (F : FnOk X.prog X.w X.K X.mg X.base CX k f fd ps sp) (hr : Room (k + 1) X.A) (hb : Binds X.K fd ps ds) (hd : Vals dvs ds)
    (hx : PassesAt CX X σ (E σ)) (I : Inv X pins σ H s) (r : Vals vs us)
    (h : ∀ x dx, H x = none → H dx = none → dx ≠ x → sp (.ref x :: (vs ++ dvs)) (upd (upd H dx (.own x)) x (.ins C dx [])) (fun v H2 => v = .non ∧ Q (.ref x) H2) (E σ)) :
    wpAny (model X.prog X.w) X.A (call (.ref C) us) (EP X pins σ Q) X.xe s := by
  have hq := h (s.heap.objs.size + 1) s.heap.objs.size (I.hok.fresh (Nat.le_succ _)) (I.hok.fresh (Nat.le_refl _)) (Nat.ne_of_lt (Nat.lt_succ_self _))
  have I2 := Inv.made (C := C) I
  have r2 : Vals (V.ref (s.heap.objs.size + 1) :: (vs ++ dvs)) (Value.ref (s.heap.objs.size + 1) :: (us ++ ds)) := .cons rfl (r.append hd)
  have hl : (Value.ref (s.heap.objs.size + 1) :: us ++ ds).length = ps.length := by
    have e := r2.length
    rw [F.len _ _ _ _ hq] at e
    exact e.symm
  refine wpAny_call (make_map (f := f) I.kIn M.makes M.init (beq_iff_eq.mp M.fn) (codeAny_mono (F.run _ X.stack _ _ ⟨Value.ref (s.heap.objs.size + 1) :: us, []⟩ (Value.ref (s.heap.objs.size + 1) :: (us ++ ds)) _ _ (E σ) (hr.make C us [])
    (I2.env0.make C us []) (hb _ (Value.ref (s.heap.objs.size + 1) :: us) I2.kIn hl) r2 hq) fun r s' hq' => ?_))
  cases r with
  | error e => exact hx pins _ _ e s' I2 hq'
  | ok fl =>
    cases fl with
    | ret u =>
      obtain ⟨v, H', I3, rv, ev, q3⟩ := I2.after hq'
      subst ev
      exact ⟨rv, ⟨V.ref (s.heap.objs.size + 1), H', I3, rfl, q3⟩⟩
    | next => exact False.elim hq'
    | brk => exact False.elim hq'
    | cont => exact False.elim hq'
def tMakeS (C : Addr) (sp : Sp) (dvs : List V) (E : L2.St → XK) (t : TA) : TE := fun σ H Q => t σ H fun vs H1 => ∀ x dx, H1 x = none → H1 dx = none → dx ≠ x →
  sp (.ref x :: (vs ++ dvs)) (upd (upd H1 dx (.own x)) x (.ins C dx [])) (fun v H2 => v = .non ∧ Q (.ref x) H2) (E σ)
theorem pe_makeS (M : Mk X.K C f) (F : FnOk X.prog X.w X.K X.mg X.base CX k f fd ps sp) (hr : Room (k + 1) X.A) (hg : Gl X x) (hm : X.mg x = some (.ref C)) (hb : Binds X.K fd ps ds) (hd : Vals dvs ds) (hx : ∀ σ, PassesAt CX X σ (E σ))
    (ha : PA X (e :: es) t) (hdb : (x == ("__debug__" : Str)) = false := by decide) (he : starEach (e :: es) X.env = (false, eval e X.env) :: starEach es X.env := by rfl) (hpl : (backTo pos (starEach es X.env)).any (·.1) = false := by rfl) :
    PE X (.Call (.Name x p) (e :: es) [] pos) (tMakeS C sp dvs E t) := by
  refine ⟨fun pins s σ H Q I h => ?_⟩
  refine wpAny_Call_Name_kw (ld_glob I hg hm ?_ hdb)
  refine PySem.W.callWith_K (h₀ := X.base) I.ok.mod.kin M.kp (thn (ha.run pos pins s σ H _ I h) fun us s1 ⟨vs, H1, I1, r, q⟩ => ⟨I1.kIn, ?_⟩) he hpl
  exact run_makeS M F hr hb hd (hx σ) I1 r q
end
end Own
end
section
namespace Own
open PySem PySem.Spec PyProof.Rows L2
section
variable {P : Program} {w : World} {K : PySem.W.Frag} {mg : Str → Option Value} {base : Heap}
end
section
variable {X : Cx} {CX : CXT} {x : Str} {C g : Addr} {k : Nat} {fd : FuncData} {ps : List Str} {sp : Sp} {ds : List Value} {dvs : List V} {e : Expr} {es : List Expr} {ta : TA} {p pos : Pos}
end
end Own
end
section
namespace Own
open PySem PySem.Spec PyProof.Rows L2
section
variable {X : Cx}
end
end Own
end
section
namespace L2
open PySem PySem.Spec PyProof.Rows
def Bt (K : PySem.W.Frag) (H : Hp) (a : Addr) : Prop := (∃ o u, H a = some (.frz o u) ∧ o.dict = none) ∨ ∃ o, K.lookup a = some o ∧ o.dict = none
def SqB (K : PySem.W.Frag) (H : Hp) (a : Addr) (xs : List V) : Prop := SqT K H a xs ∧ Bt K H a
section
variable {K : PySem.W.Frag} {F F' H : Hp} {a : Addr} {xs : List V} {ob : Obj}
theorem SqB.new (h : H a = some (.frz ob (.tup xs))) (hd : ob.dict = none) : SqB K H a xs := ⟨.inl (.inr ⟨ob, h⟩), .inl ⟨ob, _, h, hd⟩⟩
theorem SqB.same (e : Same F F') (h : SqB K F a xs) : SqB K F' a xs :=
  ⟨h.1.elim (fun h => .inl (h.elim (fun h => .inl (e _ _ h)) fun ⟨o, h⟩ => .inr ⟨o, e _ _ h⟩)) .inr, h.2.elim (fun ⟨o, u, h, d⟩ => .inl ⟨o, u, e _ _ h, d⟩) .inr⟩
end
section
variable {X : Cx} {pins : List (Addr × Obj)} {σ : L2.St} {H : Hp} {s : Shared} {xs : List V} {its : List Value}
abbrev tupO (its : Array Value) : Obj := { cls := .type "tuple", data := .seq its }
theorem newTup (I : Inv X pins σ H s) (r : Vals xs its) (z : xs.length ≤ sizeLine) : Inv X pins σ (upd H s.heap.objs.size (.frz (tupO its.toArray) (.tup xs))) { s with heap := s.heap.push (tupO its.toArray) } :=
  I.laid (t' := s.toks) (fun b o e => Heap.get?_push_of_some _ e) (Nat.le_refl _) ⟨Heap.get?_push_size _ rfl, z, its, r, IsTup.new _ _⟩
def NewT (H : Hp) (xs : List V) (Q : VK) : Prop := ∀ (p : Addr) (ob : Obj), H p = none → ob.dict = none → Q (.ref p) (upd H p (.frz ob (.tup xs)))
end
section
variable {X : Cx}
def tTupB (t : TA) : TE := fun σ H Q => t σ H fun xs H1 => xs.length ≤ sizeLine ∧ NewT H1 xs Q
theorem pe_tupB {es : List Expr} {t : TA} {k : Nat} {pos : Pos} (h : PA X es t) : PE X (.Tuple es k pos) (tTupB t) := by
  refine ⟨fun pins s σ H Q I hq => ?_⟩
  refine wpAny_Tuple_spliced (thn (h.run pos pins s σ H _ I hq) fun us s1 ⟨xs, H1, I1, r, z, q⟩ => ⟨by rw [← r.length]; exact z, ?_⟩)
  exact ⟨.ref s1.heap.objs.size, _, newTup I1 r z, rfl, q _ _ (I1.hok.fresh (Nat.le_refl _)) rfl⟩
def rCatB (K : PySem.W.Frag) : R2 := fun x y H Q => ∃ a b xs ys, x = .ref a ∧ y = .ref b ∧ SqT K H a xs ∧ SqT K H b ys ∧ xs.length + ys.length ≤ sizeLine ∧
  (xs = [] → Q (.ref b) H) ∧ (xs ≠ [] → ys = [] → Q (.ref a) H) ∧ (xs ≠ [] → ys ≠ [] → NewT H (xs ++ ys) Q)
theorem op_catB : OpR X (binaryOp .Add) (rCatB X.K) := by
  intro pins s σ H x y v u Q I rx ry h
  obtain ⟨a, b, xs, ys, rfl, rfl, ha, hb, hz, q0, q1, q2⟩ := h
  by_cases hx : xs = []
  · exact op_catA pins s σ H _ _ v u Q I rx ry ⟨a, b, xs, ys, rfl, rfl, ha, hb, hz, q0, q1, fun z => absurd hx z⟩
  cases rx
  cases ry
  obtain ⟨its, r1, p1, _⟩ := I.tuple ha
  obtain ⟨its2, r2, p2, _⟩ := I.tuple hb
  have n1 : its ≠ [] := fun z => hx (r1.nil_iff.mp z)
  refine HT.cat_tup p1 p2 n1 (fun z => ⟨.ref a, H, I, rfl, q1 hx (r2.nil_iff.mp z)⟩) (fun z => ?_) (by rw [← r1.length, ← r2.length]; exact hz)
  exact ⟨.ref s.heap.objs.size, _, newTup I (r1.append r2) (by rw [List.length_append]; exact hz), rfl, q2 hx (fun w => z (r2.nil_iff.mpr w)) _ _ (I.hok.fresh (Nat.le_refl _)) rfl⟩
def rSlTB (K : PySem.W.Frag) : V → Option Int → Option Int → Hp → VK → Prop := fun x lo hi H Q => ∃ a xs, x = .ref a ∧ SqT K H a xs ∧
  (HT.sIx xs.length 0 lo = 0 ∧ HT.sIx xs.length xs.length hi = xs.length → Q (.ref a) H) ∧ (¬ (HT.sIx xs.length 0 lo = 0 ∧ HT.sIx xs.length xs.length hi = xs.length) → NewT H (cutV xs lo hi) Q)
theorem sl_tupB : SlR X (rSlTB X.K) := by
  intro pins s σ H x v vl vu lo hi sl Q I rx hs pl pu h
  obtain ⟨a, xs, rfl, hx, q1, q2⟩ := h
  by_cases hw : HT.sIx xs.length 0 lo = 0 ∧ HT.sIx xs.length xs.length hi = xs.length
  · exact sl_tupA pins s σ H _ v vl vu lo hi sl Q I rx hs pl pu ⟨a, xs, rfl, hx, q1, fun z => absurd hw z⟩
  cases rx
  obtain ⟨its, r, ht, hz⟩ := I.tuple hx
  have hlen : its.toArray.size = xs.length := by rw [List.size_toArray]; exact r.length.symm
  refine ⟨"tuple", _, PyProof.Rows.slot_tuple_getitem.lookup, ht.typeIs, ?_⟩
  refine HT.getItem_tuple_cut ht hs pl pu (by rw [hlen]; exact hw) ?_ (by rw [hlen]; exact hz)
  rw [hlen]
  exact ⟨.ref s.heap.objs.size, _, newTup I ((r.drop (HT.sIx xs.length 0 lo)).take (HT.sIx xs.length xs.length hi - HT.sIx xs.length 0 lo)) (Nat.le_trans (cutV_length xs lo hi) hz), rfl, q2 hw _ _ (I.hok.fresh (Nat.le_refl _)) rfl⟩
def rTupOfB (K : PySem.W.Frag) : List V → Hp → VK → Prop := fun xs H Q => ∃ p ys, xs = [.ref p] ∧ ((SqL K H p ys ∧ NewT H ys Q) ∨ (SqT K H p ys ∧ Q (.ref p) H))
theorem call_tuple_ofB : CallR X (.type "tuple") (rTupOfB X.K) := by
  intro pins s σ H xs us Q I r h
  obtain ⟨p, ys, rfl, h⟩ := h
  rcases h with ⟨hq, q⟩ | ⟨hq, q⟩
  · obtain ⟨u, rfl, rx⟩ := vals1 r
    cases rx
    obtain ⟨its, r', pl, hz⟩ := I.list hq
    have hlen := r'.length
    refine call_tuple_list pl.isList (fun h' kp => ?_) (by simp only [List.size_toArray] <;> omega)
    have I1 : Inv X pins σ H { s with heap := h' } := I.kept (t' := s.toks) kp
    exact ⟨.ref h'.objs.size, _, newTup I1 r' hz, rfl, q _ _ (I1.hok.fresh (Nat.le_refl _)) rfl⟩
  · exact call_tuple_of pins s σ H _ us Q I r ⟨p, ys, rfl, .inr ⟨hq, q⟩⟩
end
end L2
end
section
namespace Vs
open PySem PySem.Spec PyProof.Rows L2

class WW where
  p : Program
  w : World
  /-- what is never changed and is known from the beginning -/
  g : Hp
  /-- the tables of code objects: each with the name of its lambda -/
  tb : List (Addr × Str)
inductive T where
  | non | bl (b : Bool) | int (i : Int) | str (x : Str)
  | lst (xs : List T) | tup (xs : List T) | seq (xs : List T) | pr (xs : List T)
  | ins (C : Addr) (fs : List (Str × T))
  | rcd (fs : List (Str × T))
  | cst (v : V)
inductive Sl where
  | val (t : T)
  | own (i : Nat)
inductive MO where
  | lst (xs : List T)
  | rcd (fs : List (Str × Sl))
  | ins (C : Addr) (fs : List (Str × Sl))
  | lsO (xs : List Sl)
  | dct (kvs : List (T × T))
  | dctL (kvs : List (T × T))
  | dead
inductive Out (α : Type) where
  | ok (a : α)
  | ex (C : Addr) (fs : List (Str × T))
abbrev M (α : Type) := Option (Out α × List MO)
structure S where
  ρ : List (Option Sl)
  m : List MO
def bM {α β : Type} (x : M α) (f : α → List MO → M β) : M β := match x with
  | none => none
  | some (.ok a, m) => f a m
  | some (.ex C fs, m) => some (.ex C fs, m)
abbrev rM {α : Type} (a : α) (m : List MO) : M α := some (.ok a, m)

def kvs (vs : List (Str × V)) : List (Key × V) := vs.map fun p => (.inr p.1, p.2)
mutual
inductive Rp (K : PySem.W.Frag) (F : Hp) : V → T → Prop
  | non : Rp K F .non .non
  | bl (b : Bool) : Rp K F (.bl b) (.bl b)
  | int (i : Int) : Rp K F (.int i) (.int i)
  | str (x : Str) : Rp K F (.str x) (.str x)
  | lst {a : Addr} {xs : List V} {ts : List T} : F a = some (.lst xs) → RpL K F xs ts → Rp K F (.ref a) (.lst ts)
  | seq {a : Addr} {xs : List V} {ts : List T} : SqL K F a xs → RpL K F xs ts → Rp K F (.ref a) (.seq ts)
  | tup {a : Addr} {xs : List V} {ts : List T} : SqB K F a xs → RpL K F xs ts → Rp K F (.ref a) (.tup ts)
  | pr {a : Addr} {xs : List V} {ts : List T} : SqT K F a xs → RpL K F xs ts → Rp K F (.ref a) (.pr ts)
  | ins {a C dx : Addr} {vs : List (Str × V)} {fs : List (Str × T)} : F a = some (.ins C dx vs) → RpF K F vs fs → Rp K F (.ref a) (.ins C fs)
  | rcd {a : Addr} {vs : List (Str × V)} {fs : List (Str × T)} : F a = some (.dK (kvs vs)) → RpF K F vs fs → Rp K F (.ref a) (.rcd fs)
  | cst (v : V) : Rp K F v (.cst v)
inductive RpL (K : PySem.W.Frag) (F : Hp) : List V → List T → Prop
  | nil : RpL K F [] []
  | cons {v : V} {vs : List V} {t : T} {ts : List T} : Rp K F v t → RpL K F vs ts → RpL K F (v :: vs) (t :: ts)
inductive RpF (K : PySem.W.Frag) (F : Hp) : List (Str × V) → List (Str × T) → Prop
  | nil : RpF K F [] []
  | cons {x : Str} {v : V} {vs : List (Str × V)} {t : T} {ts : List (Str × T)} : Rp K F v t → RpF K F vs ts → RpF K F ((x, v) :: vs) ((x, t) :: ts)
end
section
variable {K : PySem.W.Frag} {F F' : Hp}
theorem sqT_same {a : Addr} {xs : List V} (e : Same F F') (h : SqT K F a xs) : SqT K F' a xs := h.elim (fun h => .inl (h.elim (fun h => .inl (e _ _ h)) fun ⟨o, h⟩ => .inr ⟨o, e _ _ h⟩)) .inr
mutual
theorem Rp.same (e : Same F F') : ∀ {v : V} {t : T}, Rp K F v t → Rp K F' v t
  | _, _, .non => .non
  | _, _, .bl b => .bl b
  | _, _, .int i => .int i
  | _, _, .str x => .str x
  | _, _, .lst h r => .lst (e _ _ h) (RpL.same e r)
  | _, _, .seq h r => .seq (e.seq h) (RpL.same e r)
  | _, _, .tup h r => .tup (h.same e) (RpL.same e r)
  | _, _, .pr h r => .pr (sqT_same e h) (RpL.same e r)
  | _, _, .ins h r => .ins (e _ _ h) (RpF.same e r)
  | _, _, .rcd h r => .rcd (e _ _ h) (RpF.same e r)
  | _, _, .cst v => .cst v
theorem RpL.same (e : Same F F') : ∀ {vs : List V} {ts : List T}, RpL K F vs ts → RpL K F' vs ts
  | _, _, .nil => .nil
  | _, _, .cons h r => .cons (Rp.same e h) (RpL.same e r)
theorem RpF.same (e : Same F F') : ∀ {vs : List (Str × V)} {ts : List (Str × T)}, RpF K F vs ts → RpF K F' vs ts
  | _, _, .nil => .nil
  | _, _, .cons h r => .cons (Rp.same e h) (RpF.same e r)
end
theorem RpL.length : ∀ {vs : List V} {ts : List T}, RpL K F vs ts → vs.length = ts.length
  | _, _, .nil => rfl
  | _, _, .cons _ r => by rw [List.length_cons, List.length_cons, RpL.length r]
theorem RpL.append : ∀ {vs ws : List V} {ts us : List T}, RpL K F vs ts → RpL K F ws us → RpL K F (vs ++ ws) (ts ++ us)
  | _, _, _, _, .nil, h => h
  | _, _, _, _, .cons a r, h => .cons a (RpL.append r h)
theorem RpL.take : ∀ {vs : List V} {ts : List T} (n : Nat), RpL K F vs ts → RpL K F (vs.take n) (ts.take n)
  | _, _, 0, _ => by rw [List.take_zero, List.take_zero]; exact .nil
  | _, _, n + 1, .nil => .nil
  | _, _, n + 1, .cons a r => .cons a (RpL.take n r)
theorem RpL.drop : ∀ {vs : List V} {ts : List T} (n : Nat), RpL K F vs ts → RpL K F (vs.drop n) (ts.drop n)
  | _, _, 0, r => r
  | _, _, n + 1, .nil => .nil
  | _, _, n + 1, .cons _ r => RpL.drop n r
theorem RpL.get : ∀ {vs : List V} {ts : List T} {i : Nat} {t : T}, RpL K F vs ts → ts[i]? = some t → ∃ v, vs[i]? = some v ∧ Rp K F v t
  | _, _, i, t, .nil, e => by simp at e
  | _, _, 0, t, .cons a r, e => by
    rw [List.getElem?_cons_zero] at e
    cases e
    exact ⟨_, rfl, a⟩
  | _, _, i + 1, t, .cons a r, e => by
    rw [List.getElem?_cons_succ] at e
    obtain ⟨v, h1, h2⟩ := RpL.get r e
    exact ⟨v, by rw [List.getElem?_cons_succ]; exact h1, h2⟩
theorem RpL.reverse : ∀ {vs : List V} {ts : List T}, RpL K F vs ts → RpL K F vs.reverse ts.reverse
  | _, _, .nil => .nil
  | _, _, .cons a r => by
    rw [List.reverse_cons, List.reverse_cons]
    exact (RpL.reverse r).append (.cons a .nil)
theorem RpF.lookup : ∀ {vs : List (Str × V)} {ts : List (Str × T)} {x : Str} {t : T}, RpF K F vs ts → ts.lookup x = some t → ∃ v, vs.lookup x = some v ∧ Rp K F v t
  | _, _, x, t, .nil, e => by cases e
  | _, _, x, t, .cons (x := y) a r, e => by
    rw [List.lookup_cons] at e ⊢
    cases h : x == y with
    | true => rw [h] at e; cases e; exact ⟨_, rfl, a⟩
    | false => rw [h] at e; exact RpF.lookup r e
end
mutual
def nkOf : T → Option NestedKey
  | .non => some .none
  | .bl b => some (.num (if b = true then 1 else 0))
  | .int i => some (.num i)
  | .str x => some (.text x)
  | .tup ts => match nksOf ts with
    | some ks => some (.tup ks)
    | none => none
  | _ => none
def nksOf : List T → Option (List NestedKey)
  | [] => some []
  | t :: r => match nkOf t, nksOf r with
    | some k, some ks => some (k :: ks)
    | _, _ => none
end
def DN (p : Program) (w : World) (a : Addr) (xs : List (NestedKey × Addr × Value)) : HO := .ext fun h => ∃ o es ep, h.get? a = some o ∧ o.ExactDict ∧ o.data = .dict es ep ∧ es.toList = xs.map (entryOfKey (nestedKind p w)) ∧ (xs.map (·.1)).Nodup ∧ xs.length ≤ sizeLine ∧ (a == sysModules) = false
def DRel (K : PySem.W.Frag) (F : Hp) : List (T × T) → List (NestedKey × Addr × Value) → Prop := Paired fun p q => nkOf p.1 = some q.1 ∧ q.1.depth ≤ 8 ∧ Rp K F (.ref q.2.1) p.1 ∧ ∃ v, RelV v q.2.2 ∧ Rp K F v p.2
theorem DRel.same {K : PySem.W.Frag} {F F' : Hp} (e : Same F F') : ∀ {kvs : List (T × T)} {xs : List (NestedKey × Addr × Value)}, DRel K F kvs xs → DRel K F' kvs xs
  | _, _, .nil => .nil
  | _, _, .cons ⟨h1, h2, h3, v, h4, h5⟩ r => .cons ⟨h1, h2, h3.same e, v, h4, h5.same e⟩ (DRel.same e r)
def RpS (K : PySem.W.Frag) (F : Hp) (α : List Addr) (v : V) : Sl → Prop
  | .val t => Rp K F v t
  | .own i => ∃ a, α[i]? = some a ∧ v = .ref a
inductive RpG (K : PySem.W.Frag) (F : Hp) (α : List Addr) : List (Str × V) → List (Str × Sl) → Prop
  | nil : RpG K F α [] []
  | cons {x : Str} {v : V} {vs : List (Str × V)} {t : Sl} {ts : List (Str × Sl)} : RpS K F α v t → RpG K F α vs ts → RpG K F α ((x, v) :: vs) ((x, t) :: ts)
inductive RpSs (K : PySem.W.Frag) (F : Hp) (A : List Addr) : List V → List Sl → Prop
  | nil : RpSs K F A [] []
  | cons {v : V} {vs : List V} {t : Sl} {ts : List Sl} : RpS K F A v t → RpSs K F A vs ts → RpSs K F A (v :: vs) (t :: ts)
variable [WW]
def MRep (K : PySem.W.Frag) (F : Hp) (α : List Addr) (H : Hp) (a : Addr) : MO → Prop
  | .lst ts => F a = none ∧ ∃ xs, H a = some (.lst xs) ∧ RpL K F xs ts
  | .rcd fs => F a = none ∧ ∃ vs, H a = some (.dK (kvs vs)) ∧ RpG K F α vs fs
  | .ins C fs => F a = none ∧ ∃ dx vs, H a = some (.ins C dx vs) ∧ RpG K F α vs fs
  | .lsO ss => F a = none ∧ ∃ xs, H a = some (.lst xs) ∧ RpSs K F α xs ss
  | .dct ps => F a = none ∧ ∃ xs, H a = some (DN WW.p WW.w a xs) ∧ DRel K F ps xs
  | .dctL ps => ∃ od xs, F a = some (.frz od (DN WW.p WW.w a xs)) ∧ DRel K F ps xs
  | .dead => True
section
variable {K : PySem.W.Frag} {F F' : Hp} {α α' : List Addr}
theorem pre_get {i : Nat} {a : Addr} (p : α <+: α') (h : α[i]? = some a) : α'[i]? = some a := by
  obtain ⟨β, rfl⟩ := p
  have hi : i < α.length := (List.getElem?_eq_some_iff.mp h).1
  rw [List.getElem?_append_left hi]
  exact h
theorem RpS.next (e : Same F F') (p : α <+: α') {v : V} {s : Sl} (h : RpS K F α v s) : RpS K F' α' v s := by
  cases s with
  | val t => exact Rp.same e h
  | own i =>
    obtain ⟨a, h1, h2⟩ := h
    exact ⟨a, pre_get p h1, h2⟩
theorem RpG.next (e : Same F F') (p : α <+: α') : ∀ {vs : List (Str × V)} {ts : List (Str × Sl)}, RpG K F α vs ts → RpG K F' α' vs ts
  | _, _, .nil => .nil
  | _, _, .cons h r => .cons (h.next e p) (RpG.next e p r)
theorem RpSs.next (e : Same F F') (p : α <+: α') : ∀ {vs : List V} {ss : List Sl}, RpSs K F α vs ss → RpSs K F' α' vs ss
  | _, _, .nil => .nil
  | _, _, .cons h r => .cons (h.next e p) (RpSs.next e p r)
theorem MRep.next (e : Same F F') (p : α <+: α') {H H' : Hp} {a : Addr} (k : ∀ o, H a = some o → H' a = some o) (f : F a = none → F' a = none) {o : MO} (h : MRep K F α H a o) : MRep K F' α' H' a o := by
  cases o with
  | lst ts => obtain ⟨z, xs, h1, h2⟩ := h; exact ⟨f z, xs, k _ h1, h2.same e⟩
  | rcd fs => obtain ⟨z, xs, h1, h2⟩ := h; exact ⟨f z, xs, k _ h1, h2.next e p⟩
  | ins C fs => obtain ⟨z, dx, xs, h1, h2⟩ := h; exact ⟨f z, dx, xs, k _ h1, h2.next e p⟩
  | lsO ss => obtain ⟨z, xs, h1, h2⟩ := h; exact ⟨f z, xs, k _ h1, h2.next e p⟩
  | dct ps => obtain ⟨z, xs, h1, h2⟩ := h; exact ⟨f z, xs, k _ h1, DRel.same e h2⟩
  | dctL ps => obtain ⟨od, xs, h1, h2⟩ := h; exact ⟨od, xs, e _ _ h1, DRel.same e h2⟩
  | dead => trivial
theorem MRep.nextT (e : Same F F') (p : α <+: α') {H H' : Hp} {a : Addr} (k : ∀ o, H a = some o → (∀ ps, o ≠ .tbl ps) → H' a = some o) (f : F a = none → F' a = none) {o : MO} (h : MRep K F α H a o) : MRep K F' α' H' a o := by
  cases o with
  | lst ts => obtain ⟨z, xs, h1, h2⟩ := h; exact ⟨f z, xs, k _ h1 (fun _ z => by cases z), h2.same e⟩
  | rcd fs => obtain ⟨z, xs, h1, h2⟩ := h; exact ⟨f z, xs, k _ h1 (fun _ z => by cases z), h2.next e p⟩
  | ins C fs => obtain ⟨z, dx, xs, h1, h2⟩ := h; exact ⟨f z, dx, xs, k _ h1 (fun _ z => by cases z), h2.next e p⟩
  | lsO ss => obtain ⟨z, xs, h1, h2⟩ := h; exact ⟨f z, xs, k _ h1 (fun _ z => by cases z), h2.next e p⟩
  | dct ps => obtain ⟨z, xs, h1, h2⟩ := h; exact ⟨f z, xs, k _ h1 (fun _ z => by unfold DN at z; cases z), DRel.same e h2⟩
  | dctL ps => obtain ⟨od, xs, h1, h2⟩ := h; exact ⟨od, xs, e _ _ h1, DRel.same e h2⟩
  | dead => trivial
end
def TabF (F H : Hp) (P : Addr) (q : Str) : Prop := F P = none ∧ ∃ ps : Array Value, H P = some (.tbl ps) ∧ TriplesOk ps.toList ∧ ∀ (pos : Pos) (cv : Value), codeAmong pos ps.toList = some cv → ∃ c, cv = .ref c ∧ F c = some (LamX.CodeO c q)
theorem TabF.next {F F' H H' : Hp} {P : Addr} {q : Str} (t : TabF F H P q) (e : Same F F') (f : F' P = none) (k : ∀ o, H P = some o → H' P = some o) : TabF F' H' P q := by
  obtain ⟨_, ps, h1, h2, h3⟩ := t
  refine ⟨f, ps, k _ h1, h2, fun pos cv hc => ?_⟩
  obtain ⟨c, e1, e2⟩ := h3 pos cv hc
  exact ⟨c, e1, e _ _ e2⟩
theorem TabF.some_ {F H : Hp} {P : Addr} {q : Str} (t : TabF F H P q) : ∃ u, H P = some u := let ⟨_, _, h, _⟩ := t; ⟨_, h⟩
structure Objs (K : PySem.W.Frag) (F : Hp) (α : List Addr) (m : List MO) (H : Hp) : Prop where
  sub : Same F H
  len : α.length = m.length
  nd : α.Nodup
  there : ∀ a ∈ α, ∃ o, H a = some o
  obj : ∀ (i : Nat) (a : Addr) (o : MO), α[i]? = some a → m[i]? = some o → MRep K F α H a o
  gho : Same WW.g F
  tab : ∀ p ∈ WW.tb, p.1 ∉ α ∧ TabF F H p.1 p.2
structure Wd (K : PySem.W.Frag) (F : Hp) (α : List Addr) (ρ : List (Option Sl)) (m : List MO) (σ : L2.St) (H : Hp) : Prop where
  os : Objs K F α m H
  slot : ∀ (i : Nat) (r : Sl), ρ[i]? = some (some r) → ∃ v, σ[i]? = some (some v) ∧ RpS K F α v r
  slen : ρ.length = σ.length
structure Nxt (F : Hp) (α : List Addr) (H : Hp) (F' : Hp) (α' : List Addr) (H' : Hp) : Prop where
  sub : Same F F'
  pre : α <+: α'
  fresh : ∀ a o, F' a = some o → F a = some o ∨ H a = none ∨ a ∈ α
  news : ∀ a ∈ α', a ∈ α ∨ H a = none
  keepT : ∀ a o, H a = some o → a ∉ α → (∃ ps, o = .tbl ps ∧ ∃ qs, H' a = some (.tbl qs)) ∨ H' a = some o
theorem Nxt.keep {F : Hp} {α : List Addr} {H F' : Hp} {α' : List Addr} {H' : Hp} (n : Nxt F α H F' α' H') (a : Addr) (o : HO) (h : H a = some o) (ha : a ∉ α) (hn : ∀ ps, o ≠ .tbl ps := by (intro _ z; cases z)) : H' a = some o :=
  (n.keepT a o h ha).elim (fun ⟨ps, z, _⟩ => absurd z (hn ps)) id
theorem Nxt.stays {F : Hp} {α : List Addr} {H F' : Hp} {α' : List Addr} {H' : Hp} (n : Nxt F α H F' α' H') (a : Addr) (o : HO) (h : H a = some o) (ha : a ∉ α) : ∃ u, H' a = some u :=
  (n.keepT a o h ha).elim (fun ⟨_, _, qs, z⟩ => ⟨_, z⟩) fun z => ⟨_, z⟩
section
variable {K : PySem.W.Frag} {F F1 F2 : Hp} {α α1 α2 : List Addr} {H H1 H2 : Hp}
theorem Nxt.refl : Nxt F α H F α H := ⟨Same.refl _, List.prefix_refl _, fun _ _ h => .inl h, fun _ h => .inl h, fun _ _ h _ => .inr h⟩
theorem Nxt.trans (a : Nxt F α H F1 α1 H1) (b : Nxt F1 α1 H1 F2 α2 H2) : Nxt F α H F2 α2 H2 where
  sub := a.sub.trans b.sub
  pre := List.IsPrefix.trans a.pre b.pre
  fresh := fun x o h => by
    rcases b.fresh x o h with h | h | h
    · exact a.fresh x o h
    · by_cases hx : x ∈ α
      · exact .inr (.inr hx)
      · cases e : H x with
        | none => exact .inr (.inl rfl)
        | some u => obtain ⟨v, ev⟩ := a.stays x u e hx; rw [ev] at h; cases h
    · rcases a.news x h with h | h
      · exact .inr (.inr h)
      · exact .inr (.inl h)
  news := fun x h => by
    rcases b.news x h with h | h
    · exact a.news x h
    · by_cases hx : x ∈ α
      · exact .inl hx
      · cases e : H x with
        | none => exact .inr rfl
        | some u => obtain ⟨v, ev⟩ := a.stays x u e hx; rw [ev] at h; cases h
  keepT := fun x o h hx => by
    have nx : x ∉ α1 := fun h1 => by
      rcases a.news x h1 with z | z
      · exact hx z
      · rw [z] at h; cases h
    rcases a.keepT x o h hx with ⟨ps, rfl, qs, e⟩ | e
    · rcases b.keepT x _ e nx with ⟨_, _, rs, e2⟩ | e2
      · exact .inl ⟨ps, rfl, rs, e2⟩
      · exact .inl ⟨ps, rfl, qs, e2⟩
    · exact b.keepT x o e nx
end
section
variable {K : PySem.W.Frag} {F F' : Hp} {α : List Addr} {ρ : List (Option Sl)} {m : List MO} {σ : L2.St} {H H' : Hp} {p : Addr} {o : HO}
theorem same_new {H : Hp} {p : Addr} {o : HO} (h : H p = none) : Same H (upd H p o) := fun b u e => by
  rw [upd_ne (ne_of_none e h)]; exact e
theorem Objs.notin (h : Objs K F α m H) (np : H p = none) : p ∉ α := fun z => by
  obtain ⟨o, e⟩ := h.there p z
  rw [np] at e; cases e
theorem Objs.fnone (h : Objs K F α m H) (np : H p = none) : F p = none := Same.free h.sub np
theorem same_upd2 (h : Same F H) : Same (upd F p o) (upd H p o) := fun b u e => by
  by_cases z : b = p
  · subst z; rw [upd_same] at e ⊢; exact e
  · rw [upd_ne z] at e ⊢; exact h b u e
theorem Objs.new (h : Objs K F α m H) (np : H p = none) : Objs K (upd F p o) α m (upd H p o) where
  sub := same_upd2 h.sub
  len := h.len
  nd := h.nd
  there := fun a ha => by
    obtain ⟨u, e⟩ := h.there a ha
    exact ⟨u, by rw [upd_ne (ne_of_none e np)]; exact e⟩
  obj := fun i a u h1 h2 => by
    obtain ⟨w, e⟩ := h.there a (List.mem_of_getElem? h1)
    have ne := ne_of_none e np
    exact (h.obj i a u h1 h2).next (same_new (h.fnone np)) (List.prefix_refl _) (fun o e => by rw [upd_ne ne]; exact e) (fun e => by rw [upd_ne ne]; exact e)
  gho := h.gho.trans (same_new (h.fnone np))
  tab := fun q hq => by
    obtain ⟨h1, h2⟩ := h.tab q hq
    obtain ⟨u, e⟩ := h2.some_
    have ne := ne_of_none e np
    exact ⟨h1, h2.next (same_new (h.fnone np)) (by rw [upd_ne ne]; exact h2.1) (fun o e => by rw [upd_ne ne]; exact e)⟩
theorem Objs.keep (h : Objs K F α m H) (np : H p = none) : Objs K F α m (upd H p o) where
  sub := h.sub.trans (same_new np)
  len := h.len
  nd := h.nd
  there := fun a ha => by
    obtain ⟨u, e⟩ := h.there a ha
    exact ⟨u, by rw [upd_ne (ne_of_none e np)]; exact e⟩
  obj := fun i a u h1 h2 => (h.obj i a u h1 h2).next (Same.refl _) (List.prefix_refl _) (fun o e => by rw [upd_ne (ne_of_none e np)]; exact e) id
  gho := h.gho
  tab := fun q hq => ⟨(h.tab q hq).1, (h.tab q hq).2.next (Same.refl _) (h.tab q hq).2.1 (fun o e => by rw [upd_ne (ne_of_none e np)]; exact e)⟩
theorem Objs.add {xs : List V} {ts : List T} (h : Objs K F α m H) (fp : F p = none) (na : p ∉ α) (e : H p = some (.lst xs)) (r : RpL K F xs ts) : Objs K F (α ++ [p]) (m ++ [.lst ts]) H where
  sub := h.sub
  len := by rw [List.length_append, List.length_append, h.len]; rfl
  nd := List.nodup_append.mpr ⟨h.nd, (by simp), fun a ha b hb z => by rw [List.mem_singleton.mp hb] at z; exact na (z ▸ ha)⟩
  there := fun a ha => (List.mem_append.mp ha).elim (h.there a) fun z => by rw [List.mem_singleton.mp z]; exact ⟨_, e⟩
  obj := fun i a u h1 h2 => by
    by_cases hi : i < α.length
    · rw [List.getElem?_append_left hi] at h1
      rw [List.getElem?_append_left (h.len ▸ hi)] at h2
      exact (h.obj i a u h1 h2).next (Same.refl _) (List.prefix_append _ _) (fun o e => e) id
    · rw [List.getElem?_append_right (Nat.le_of_not_lt hi)] at h1
      rw [List.getElem?_append_right (h.len ▸ Nat.le_of_not_lt hi), ← h.len] at h2
      cases z : i - α.length with
      | zero =>
        rw [z] at h1 h2
        cases h1
        cases h2
        exact ⟨fp, xs, e, r⟩
      | succ n => rw [z] at h1; cases h1
  gho := h.gho
  tab := fun q hq => by
    refine ⟨fun z => ?_, (h.tab q hq).2⟩
    rcases List.mem_append.mp z with z | z
    · exact (h.tab q hq).1 z
    · obtain ⟨_, ps, e2, _⟩ := (h.tab q hq).2
      rw [List.mem_singleton.mp z, e] at e2
      cases e2
theorem Wd.of (h : Wd K F α ρ m σ H) {F2 : Hp} {α2 : List Addr} {m2 : List MO} {H2 : Hp} (e : Same F F2) (p : α <+: α2) (o : Objs K F2 α2 m2 H2) : Wd K F2 α2 ρ m2 σ H2 :=
  ⟨o, fun i r z => let ⟨v, h1, h2⟩ := h.slot i r z; ⟨v, h1, h2.next e p⟩, h.slen⟩
theorem Nxt.new (h : Objs K F α m H) (np : H p = none) : Nxt F α H (upd F p o) α (upd H p o) where
  sub := same_new (h.fnone np)
  pre := List.prefix_refl _
  fresh := fun a u e => by
    by_cases z : a = p
    · subst z; exact .inr (.inl np)
    · rw [upd_ne z] at e; exact .inl e
  news := fun a ha => .inl ha
  keepT := fun a u e _ => .inr (by rw [upd_ne (ne_of_none e np)]; exact e)
theorem Objs.tabFrz (h : Objs K F α m H) (fp : F p = none) (e : H p = some o) (no : ∀ ps, o ≠ .tbl ps := by (intro _ z; cases z)) : ∀ q ∈ WW.tb, q.1 ∉ α ∧ TabF (upd F p o) H q.1 q.2 := fun q hq => by
  obtain ⟨h1, h2⟩ := h.tab q hq
  obtain ⟨f1, ps, e2, h3, h4⟩ := h2
  have ne : q.1 ≠ p := fun z => by
    rw [z, e] at e2
    exact no ps (Option.some.inj e2)
  exact ⟨h1, TabF.next ⟨f1, ps, e2, h3, h4⟩ (same_new fp) (by rw [upd_ne ne]; exact f1) (fun _ z => z)⟩
end
def XdAt (H : Hp) (d : Option Addr) (vs : List (Str × V)) : Prop := match d with
  | some a => H a = some (.xd vs)
  | none => vs = []
def Got {α β : Type} (K : PySem.W.Frag) (W : WX) (σ : L2.St) (ρ : List (Option Sl)) (F : Hp) (A : List Addr) (H : Hp) (Rel : Hp → List Addr → Hp → β → α → Prop) (r : M α) (Q : β → Hp → Prop) : Prop :=
  ∃ o m', r = some (o, m') ∧ match o with
    | .ok a => ∀ F' A' b H', Nxt F A H F' A' H' → Wd K F' A' ρ m' σ H' → Rel F' A' H' b a → Q b H'
    | .ex C fs => ∀ F' A' d vs H', Nxt F A H F' A' H' → Wd K F' A' ρ m' σ H' → RpF K F' vs fs → XdAt H' d vs → W (.ref C) d σ H'
section
variable {α β γ δ : Type} {K : PySem.W.Frag} {W : WX} {σ : L2.St} {ρ : List (Option Sl)} {F F1 : Hp} {A A1 : List Addr} {H H1 : Hp} {R1 : Hp → List Addr → Hp → β → α → Prop} {R2 : Hp → List Addr → Hp → δ → γ → Prop} {x : M α} {f : α → List MO → M γ} {Q : δ → Hp → Prop}
theorem Got.later {r : M γ} (h : Got K W σ ρ F A H R2 r Q) (n : Nxt F A H F1 A1 H1) : Got K W σ ρ F1 A1 H1 R2 r Q := by
  obtain ⟨o, m', e, h⟩ := h
  refine ⟨o, m', e, ?_⟩
  cases o with
  | ok a => exact fun F' A' b H' n' => h F' A' b H' (n.trans n')
  | ex C fs => exact fun F' A' d vs H' n' => h F' A' d vs H' (n.trans n')
theorem Got.bind (h : Got K W σ ρ F A H R2 (bM x f) Q) : Got K W σ ρ F A H R1 x fun b H1 => ∃ F1 A1 m1 a, Nxt F A H F1 A1 H1 ∧ Wd K F1 A1 ρ m1 σ H1 ∧ R1 F1 A1 H1 b a ∧ Got K W σ ρ F1 A1 H1 R2 (f a m1) Q := by
  match x, h with
  | none, h => obtain ⟨_, _, e, _⟩ := h; cases e
  | some (.ok a, m1), h => exact ⟨_, _, rfl, fun F1 A1 b H1 n w r => ⟨F1, A1, m1, a, n, w, r, Got.later h n⟩⟩
  | some (.ex C fs, m1), h =>
    obtain ⟨o, m', e, h⟩ := h
    cases e
    exact ⟨_, _, rfl, h⟩
theorem Got.mono {r : M γ} {Q' : δ → Hp → Prop} (h : Got K W σ ρ F A H R2 r Q) (k : ∀ b H', Q b H' → Q' b H') : Got K W σ ρ F A H R2 r Q' := by
  obtain ⟨o, m', e, h⟩ := h
  refine ⟨o, m', e, ?_⟩
  cases o with
  | ok a => exact fun F' A' b H' n w r => k _ _ (h F' A' b H' n w r)
  | ex C fs => exact h
theorem Got.now {c : γ} {m : List MO} {d : δ} (h : Got K W σ ρ F A H R2 (rM c m) Q) (w : Wd K F A ρ m σ H) (r : R2 F A H d c) : Q d H := by
  obtain ⟨o, m', e, h⟩ := h
  cases e
  exact h F A d H Nxt.refl w r
end
abbrev VE := S → M Sl
abbrev VN := S → M (List T)
abbrev VT := S → M Bool
abbrev VA := S → M (List Sl)
def rS (K : PySem.W.Frag) : Hp → List Addr → Hp → V → Sl → Prop := fun F A _ v s => RpS K F A v s
def rN (K : PySem.W.Frag) : Hp → List Addr → Hp → V → List T → Prop := fun F A H v ts => ∃ p xs, v = .ref p ∧ F p = none ∧ p ∉ A ∧ H p = some (.lst xs) ∧ RpL K F xs ts ∧ ts.length ≤ 1000000
def LE (K : PySem.W.Frag) (W : WX) (f : VE) : TE := fun σ H Q => ∃ F A ρ m, Wd K F A ρ m σ H ∧ Got K W σ ρ F A H (rS K) (f ⟨ρ, m⟩) Q
def LN (K : PySem.W.Frag) (W : WX) (f : VN) : TE := fun σ H Q => ∃ F A ρ m, Wd K F A ρ m σ H ∧ Got K W σ ρ F A H (fun F' A' H' v ts => rN K F' A' H' v ts ∧ ∀ p, v = .ref p → H p = none) (f ⟨ρ, m⟩) Q
def LT (K : PySem.W.Frag) (W : WX) (f : VT) : TT := fun σ H Q => ∃ F A ρ m, Wd K F A ρ m σ H ∧ Got K W σ ρ F A H (fun _ _ _ b c => b = c) (f ⟨ρ, m⟩) Q
def LA (K : PySem.W.Frag) (W : WX) (f : VA) : TA := fun σ H Q => ∃ F A ρ m, Wd K F A ρ m σ H ∧ Got K W σ ρ F A H (fun F' A' _ vs ss => RpSs K F' A' vs ss) (f ⟨ρ, m⟩) Q
end Vs
end
section
namespace Vs
open PySem PySem.Spec PyProof.Rows L2
variable [WW]
theorem PE.imp {X : Cx} {e : Expr} {t t' : TE} (h : PE X e t) (k : ∀ σ H Q, t' σ H Q → t σ H Q) : PE X e t' := ⟨fun pins s σ H Q I z => h.run pins s σ H Q I (k _ _ _ z)⟩
theorem PT.imp {X : Cx} {e : Expr} {t t' : TT} (h : PT X e t) (k : ∀ σ H Q, t' σ H Q → t σ H Q) : PT X e t' := ⟨fun pins s σ H Q I z => h.run pins s σ H Q I (k _ _ _ z)⟩
theorem PW.imp {X : Cx} {e : Expr} {t t' : TT} (h : PW X e t) (k : ∀ σ H Q, t' σ H Q → t σ H Q) : PW X e t' := ⟨fun w pins s σ H Q I z => h.run w pins s σ H Q I (k _ _ _ z)⟩
theorem PA.imp {X : Cx} {es : List Expr} {t t' : TA} (h : PA X es t) (k : ∀ σ H Q, t' σ H Q → t σ H Q) : PA X es t' := ⟨fun pos pins s σ H Q I z => h.run pos pins s σ H Q I (k _ _ _ z)⟩
theorem PS.imp {X : Cx} {s : Stmt} {t t' : TS} (h : PS X s t) (k : ∀ D σ H, t' D σ H → t D σ H) : PS X s t' := ⟨fun pins s σ H D I z => h.run pins s σ H D I (k _ _ _ z)⟩
theorem PSs.imp {X : Cx} {s : List Stmt} {t t' : TS} (h : PSs X s t) (k : ∀ D σ H, t' D σ H → t D σ H) : PSs X s t' := ⟨fun pins s σ H D I z => h.run pins s σ H D I (k _ _ _ z)⟩
section
variable {K : PySem.W.Frag} {W : WX} {X : Cx}
def vVar (i : Nat) : VE := fun s => match s.ρ[i]? with
  | some (some r) => rM r s.m
  | _ => none
def vC (t : T) : VE := fun s => rM (.val t) s.m
theorem le_var {i : Nat} {σ : L2.St} {H : Hp} {Q : VK} (h : LE K W (vVar i) σ H Q) : tVar i σ H Q := by
  obtain ⟨F, A, ρ, m, w, g⟩ := h
  unfold vVar at g
  cases e : ρ[i]? with
  | none => simp only [e] at g; obtain ⟨_, _, z, _⟩ := g; cases z
  | some r =>
    cases r with
    | none => simp only [e] at g; obtain ⟨_, _, z, _⟩ := g; cases z
    | some r =>
      simp only [e] at g
      obtain ⟨v, h1, h2⟩ := w.slot i r e
      exact ⟨v, h1, g.now w h2⟩
theorem pe_vvar (i : Nat) {x : Str} {pos : Pos} (hN : X.N[i]? = some x := by rfl) (hv : Vis X.env.scope x := by first | exact Or.inl rfl | exact Or.inr (Or.inl rfl) | exact Or.inr (Or.inr rfl)) (hd : (x == ("__debug__" : Str)) = false := by decide) (hcd : (x == ("__classdict__" : Str)) = false := by decide) :
    PE X (.Name x pos) (LE X.K W (vVar i)) := PE.imp (pe_var hN hv hd hcd) fun _ _ _ => le_var
theorem le_c {v : V} {t : T} (r : ∀ F, Rp K F v t) {σ : L2.St} {H : Hp} {Q : VK} (h : LE K W (vC t) σ H Q) : tC v σ H Q := by
  obtain ⟨F, A, ρ, m, w, g⟩ := h
  exact g.now w (r F)
theorem pe_vint {i : Int} {j : Nat} {pos : Pos} : PE X (.Constant (.int i) j pos) (LE X.K W (vC (.int i))) := PE.imp pe_int fun _ _ _ => le_c fun _ => .int i
theorem pe_vstr {x : Str} {j : Nat} {pos : Pos} : PE X (.Constant (.str x) j pos) (LE X.K W (vC (.str x))) := PE.imp pe_str fun _ _ _ => le_c fun _ => .str x
theorem pe_vbl {b : Bool} {j : Nat} {pos : Pos} : PE X (.Constant (.bool b) j pos) (LE X.K W (vC (.bl b))) := PE.imp pe_bl fun _ _ _ => le_c fun _ => .bl b
theorem pe_vnon {j : Nat} {pos : Pos} : PE X (.Constant .none j pos) (LE X.K W (vC .non)) := PE.imp pe_non fun _ _ _ => le_c fun _ => .non
theorem pe_vglob {x : Str} {v : V} {u : Value} {t : T} {pos : Pos} (hg : Gl X x) (hm : X.mg x = some u) (r : RelV v u) (rp : ∀ F, Rp X.K F v t) (hd : (x == ("__debug__" : Str)) = false := by decide) : PE X (.Name x pos) (LE X.K W (vC t)) := PE.imp (pe_glob hg hm r hd) fun _ _ _ => le_c rp
def vVal (f : VN) : VE := fun s => bM (f s) fun ts m => rM (.val (.lst ts)) m
def vOwn (f : VN) : VE := fun s => bM (f s) fun ts m => rM (.own m.length) (m ++ [.lst ts])
theorem le_val {f : VN} {σ : L2.St} {H : Hp} {Q : VK} (h : LE K W (vVal f) σ H Q) : LN K W f σ H Q := by
  obtain ⟨F, A, ρ, m, w, g⟩ := h
  refine ⟨F, A, ρ, m, w, ?_⟩
  unfold vVal at g
  match h : f ⟨ρ, m⟩, g with
  | none, g => obtain ⟨_, _, z, _⟩ := g; cases z
  | some (.ex C fs, m1), g =>
    obtain ⟨_, _, z, g⟩ := g
    cases z
    exact ⟨_, _, rfl, g⟩
  | some (.ok ts, m1), g =>
    obtain ⟨_, _, z, g⟩ := g
    cases z
    refine ⟨_, _, rfl, fun F1 A1 v H1 n w1 ⟨⟨p, xs, ev, fp, na, e, r, _⟩, np0⟩ => ?_⟩
    have np := np0 p ev
    subst ev
    have s1 : Same F1 (upd F1 p (.lst xs)) := same_new fp
    have s2 : Same (upd F1 p (.lst xs)) H1 := fun b u z => by
      by_cases q : b = p
      · subst q; rw [upd_same] at z; rw [e]; exact z
      · rw [upd_ne q] at z; exact w1.os.sub b u z
    refine g (upd F1 p (.lst xs)) A1 (.ref p) H1 ⟨n.sub.trans s1, n.pre, fun a u z => ?_, n.news, n.keepT⟩ (w1.of s1 (List.prefix_refl _) ⟨s2, w1.os.len, w1.os.nd, w1.os.there, fun i a o h1 h2 => ?_, w1.os.gho.trans s1, w1.os.tabFrz fp e⟩) (.lst upd_same (r.same s1))
    · by_cases q : a = p
      · subst q; exact .inr (.inl np)
      · rw [upd_ne q] at z; exact n.fresh a u z
    · have ne : a ≠ p := fun q => na (q ▸ List.mem_of_getElem? h1)
      exact (w1.os.obj i a o h1 h2).next s1 (List.prefix_refl _) (fun _ z => z) fun z => by rw [upd_ne ne]; exact z
theorem le_own {f : VN} {σ : L2.St} {H : Hp} {Q : VK} (h : LE K W (vOwn f) σ H Q) : LN K W f σ H Q := by
  obtain ⟨F, A, ρ, m, w, g⟩ := h
  refine ⟨F, A, ρ, m, w, ?_⟩
  unfold vOwn at g
  match h : f ⟨ρ, m⟩, g with
  | none, g => obtain ⟨_, _, z, _⟩ := g; cases z
  | some (.ex C fs, m1), g =>
    obtain ⟨_, _, z, g⟩ := g
    cases z
    exact ⟨_, _, rfl, g⟩
  | some (.ok ts, m1), g =>
    obtain ⟨_, _, z, g⟩ := g
    cases z
    refine ⟨_, _, rfl, fun F1 A1 v H1 n w1 ⟨⟨p, xs, ev, fp, na, e, r, _⟩, np0⟩ => ?_⟩
    have np := np0 p ev
    subst ev
    refine g F1 (A1 ++ [p]) (.ref p) H1 ⟨n.sub, List.IsPrefix.trans n.pre (List.prefix_append _ _), n.fresh, fun a ha => ?_, n.keepT⟩ (w1.of (Same.refl _) (List.prefix_append _ _) (w1.os.add fp na e r)) ⟨p, ?_, rfl⟩
    · rcases List.mem_append.mp ha with z | z
      · exact n.news a z
      · rw [List.mem_singleton.mp z]; exact .inr np
    · rw [← w1.os.len, List.getElem?_append_right (Nat.le_refl _), Nat.sub_self]
      rfl
theorem pe_vval {e : Expr} {f : VN} (h : PE X e (LN K W f)) : PE X e (LE K W (vVal f)) := PE.imp h fun _ _ _ => le_val
theorem pe_vown {e : Expr} {f : VN} (h : PE X e (LN K W f)) : PE X e (LE K W (vOwn f)) := PE.imp h fun _ _ _ => le_own
def OpV (K : PySem.W.Frag) (r : R2) (g : Sl → Sl → List MO → M Sl) : Prop :=
  ∀ (W : WX) (F : Hp) (A : List Addr) (ρ : List (Option Sl)) (m : List MO) (σ : L2.St) (H : Hp) (x y : V) (a b : Sl) (Q : VK), Wd K F A ρ m σ H → RpS K F A x a → RpS K F A y b → Got K W σ ρ F A H (rS K) (g a b m) Q → r x y H Q
def vBin (g : Sl → Sl → List MO → M Sl) (fa fb : VE) : VE := fun s => bM (fa s) fun a m1 => bM (fb ⟨s.ρ, m1⟩) fun b m2 => g a b m2
theorem le_bin {r : R2} {g : Sl → Sl → List MO → M Sl} {fa fb : VE} (hv : OpV K r g) {σ : L2.St} {H : Hp} {Q : VK} (h : LE K W (vBin g fa fb) σ H Q) : tOp r (LE K W fa) (LE K W fb) σ H Q := by
  obtain ⟨F, A, ρ, m, w, got⟩ := h
  refine ⟨F, A, ρ, m, w, (Got.bind (R1 := rS K) got).mono fun x H1 z => ?_⟩
  obtain ⟨F1, A1, m1, a, n1, w1, ra, g1⟩ := z
  refine ⟨F1, A1, ρ, m1, w1, (Got.bind (R1 := rS K) g1).mono fun y H2 z => ?_⟩
  obtain ⟨F2, A2, m2, b, n2, w2, rb, g2⟩ := z
  exact hv W F2 A2 ρ m2 σ H2 x y a b Q w2 (ra.next n2.sub n2.pre) rb g2
theorem pe_vop {op : Operator} {r : R2} {g : Sl → Sl → List MO → M Sl} {a b : Expr} {fa fb : VE} {pos : Pos} (ho : OpR X (binaryOp op) r) (hv : OpV X.K r g) (ha : PE X a (LE X.K W fa)) (hb : PE X b (LE X.K W fb)) : PE X (.BinOp a op b pos) (LE X.K W (vBin g fa fb)) := PE.imp (pe_op ho ha hb) fun _ _ _ => le_bin hv
theorem pe_vcmp {op : CmpOp} {r : R2} {g : Sl → Sl → List MO → M Sl} {a b : Expr} {fa fb : VE} {pos : Pos} (ho : OpR X (compareOp op) r) (hv : OpV X.K r g) (ha : PE X a (LE X.K W fa)) (hb : PE X b (LE X.K W fb)) (hm : behindInMarks op b = false) : PE X (.Compare a [op] [b] pos) (LE X.K W (vBin g fa fb)) := PE.imp (pe_cmpR ho ha hb hm) fun _ _ _ => le_bin hv
def gInt (f : Int → Int → T) : Sl → Sl → List MO → M Sl
  | .val (.int i), .val (.int j), m => rM (.val (f i j)) m
  | _, _, _ => none
theorem ov_int {f : Int → Int → V} {f' : Int → Int → T} (hf : ∀ F i j, Rp K F (f i j) (f' i j)) : OpV K (rI0 f) (gInt f') := by
  intro W F A ρ m σ H x y a b Q w ra rb g
  unfold gInt at g
  split at g
  · rename_i m' i j
    cases ra
    cases rb
    exact ⟨i, j, rfl, rfl, g.now w (hf F i j)⟩
  · obtain ⟨_, _, z, _⟩ := g; cases z
end
end Vs
end
section
namespace Vs
open PySem PySem.Spec PyProof.Rows L2
variable [WW]
inductive Fl where
  | nx | bk | ct
  | rt (r : Sl)
  | ex (C : Addr) (fs : List (Str × T))
abbrev R := Option (Fl × S)
abbrev VS := S → R
section
variable {K : PySem.W.Frag} {W : WX} {X : Cx}
def Ran (K : PySem.W.Frag) (W : WX) (F : Hp) (A : List Addr) (H : Hp) (D : Ends) (r : R) : Prop := ∃ fl s', r = some (fl, s') ∧ match fl with
  | .nx => ∀ F' A' σ' H', Nxt F A H F' A' H' → Wd K F' A' s'.ρ s'.m σ' H' → D.nx σ' H'
  | .bk => ∀ F' A' σ' H', Nxt F A H F' A' H' → Wd K F' A' s'.ρ s'.m σ' H' → D.bk σ' H'
  | .ct => ∀ F' A' σ' H', Nxt F A H F' A' H' → Wd K F' A' s'.ρ s'.m σ' H' → D.ct σ' H'
  | .rt r => ∀ F' A' σ' v H', Nxt F A H F' A' H' → Wd K F' A' s'.ρ s'.m σ' H' → RpS K F' A' v r → D.rt v H'
  | .ex C fs => ∀ F' A' σ' d vs H', Nxt F A H F' A' H' → Wd K F' A' s'.ρ s'.m σ' H' → RpF K F' vs fs → XdAt H' d vs → W (.ref C) d σ' H'
def LS (K : PySem.W.Frag) (W : WX) (g : VS) : TS := fun D σ H => ∃ F A ρ m, Wd K F A ρ m σ H ∧ Ran K W F A H D (g ⟨ρ, m⟩)
theorem Ran.later {F F1 : Hp} {A A1 : List Addr} {H H1 : Hp} {D : Ends} {r : R} (h : Ran K W F A H D r) (n : Nxt F A H F1 A1 H1) : Ran K W F1 A1 H1 D r := by
  obtain ⟨fl, s', e, h⟩ := h
  refine ⟨fl, s', e, ?_⟩
  cases fl with
  | nx => exact fun F' A' σ' H' n' => h F' A' σ' H' (n.trans n')
  | bk => exact fun F' A' σ' H' n' => h F' A' σ' H' (n.trans n')
  | ct => exact fun F' A' σ' H' n' => h F' A' σ' H' (n.trans n')
  | rt r => exact fun F' A' σ' v H' n' => h F' A' σ' v H' (n.trans n')
  | ex C fs => exact fun F' A' σ' d vs H' n' => h F' A' σ' d vs H' (n.trans n')
def bS {α : Type} (ρ : List (Option Sl)) (x : M α) (f : α → List MO → R) : R := match x with
  | none => none
  | some (.ok a, m) => f a m
  | some (.ex C fs, m) => some (.ex C fs, ⟨ρ, m⟩)
theorem Ran.bS {α β : Type} {σ : L2.St} {ρ : List (Option Sl)} {F : Hp} {A : List Addr} {H : Hp} {D : Ends} {x : M α} {f : α → List MO → R} (R1 : Hp → List Addr → Hp → β → α → Prop) (h : Ran K W F A H D (bS ρ x f)) :
    Got K W σ ρ F A H R1 x fun b H1 => ∃ F1 A1 m1 a, Nxt F A H F1 A1 H1 ∧ Wd K F1 A1 ρ m1 σ H1 ∧ R1 F1 A1 H1 b a ∧ Ran K W F1 A1 H1 D (f a m1) := by
  match x, h with
  | none, h => obtain ⟨_, _, e, _⟩ := h; cases e
  | some (.ok a, m1), h => exact ⟨_, _, rfl, fun F1 A1 b H1 n w r => ⟨F1, A1, m1, a, n, w, r, Ran.later h n⟩⟩
  | some (.ex C fs, m1), h =>
    obtain ⟨fl, s', e, h⟩ := h
    cases e
    exact ⟨_, _, rfl, fun F' A' d vs H' n w => h F' A' σ d vs H' n w⟩
theorem Ran.nx {ρ : List (Option Sl)} {m : List MO} {F : Hp} {A : List Addr} {σ : L2.St} {H : Hp} {D : Ends} (h : Ran K W F A H D (some (.nx, ⟨ρ, m⟩))) (w : Wd K F A ρ m σ H) : D.nx σ H := by
  obtain ⟨fl, s', e, h⟩ := h
  cases e
  exact h F A σ H Nxt.refl w
theorem Ran.rt {ρ : List (Option Sl)} {m : List MO} {F : Hp} {A : List Addr} {σ : L2.St} {H : Hp} {D : Ends} {r : Sl} {v : V} (h : Ran K W F A H D (some (.rt r, ⟨ρ, m⟩))) (w : Wd K F A ρ m σ H) (rv : RpS K F A v r) : D.rt v H := by
  obtain ⟨fl, s', e, h⟩ := h
  cases e
  exact h F A σ v H Nxt.refl w rv
theorem Wd.set {F : Hp} {A : List Addr} {ρ : List (Option Sl)} {m : List MO} {σ : L2.St} {H : Hp} {i : Nat} {r : Sl} {v : V} (w : Wd K F A ρ m σ H) (rv : RpS K F A v r) : Wd K F A (ρ.set i (some r)) m (σ.set i (some v)) H := by
  refine ⟨w.os, fun j s z => ?_, by rw [List.length_set, List.length_set]; exact w.slen⟩
  by_cases e : i = j
  · subst e
    have hl : i < ρ.length := by
      have := (List.getElem?_eq_some_iff.mp z).1
      rw [List.length_set] at this
      exact this
    rw [List.getElem?_set_self hl] at z
    cases z
    exact ⟨v, by rw [List.getElem?_set_self (w.slen ▸ hl)], rv⟩
  · rw [List.getElem?_set_ne e] at z
    obtain ⟨u, h1, h2⟩ := w.slot j s z
    exact ⟨u, by rw [List.getElem?_set_ne e]; exact h1, h2⟩
def vSeq (f g : VS) : VS := fun s => match f s with
  | none => none
  | some (.nx, s') => g s'
  | some (fl, s') => some (fl, s')
theorem ls_seq {f g : VS} {D : Ends} {σ : L2.St} {H : Hp} (h : LS K W (vSeq f g) D σ H) : tSeq (LS K W f) (LS K W g) D σ H := by
  obtain ⟨F, A, ρ, m, w, r⟩ := h
  refine ⟨F, A, ρ, m, w, ?_⟩
  unfold vSeq at r
  match e : f ⟨ρ, m⟩, r with
  | none, r => obtain ⟨_, _, z, _⟩ := r; cases z
  | some (.nx, s'), r => exact ⟨_, _, rfl, fun F' A' σ' H' n w' => ⟨F', A', s'.ρ, s'.m, w', r.later n⟩⟩
  | some (.bk, s'), r => obtain ⟨_, _, z, r⟩ := r; cases z; exact ⟨_, _, rfl, r⟩
  | some (.ct, s'), r => obtain ⟨_, _, z, r⟩ := r; cases z; exact ⟨_, _, rfl, r⟩
  | some (.rt v, s'), r => obtain ⟨_, _, z, r⟩ := r; cases z; exact ⟨_, _, rfl, r⟩
  | some (.ex C fs, s'), r => obtain ⟨_, _, z, r⟩ := r; cases z; exact ⟨_, _, rfl, r⟩
theorem pss_vcons {st : Stmt} {rest : List Stmt} {f g : VS} (h1 : PS X st (LS K W f)) (h2 : PSs X rest (LS K W g)) : PSs X (st :: rest) (LS K W (vSeq f g)) := PSs.imp (pss_cons h1 h2) fun _ _ _ => ls_seq
theorem pss_vone {st : Stmt} {f : VS} (h : PS X st (LS K W f)) : PSs X [st] (LS K W f) := pss_one h
def vNext : VS := fun s => some (.nx, s)
theorem pss_vnil : PSs X [] (LS K W vNext) := PSs.imp pss_nil fun D σ H ⟨F, A, ρ, m, w, r⟩ => r.nx w
def vBreak : VS := fun s => some (.bk, s)
def vCont : VS := fun s => some (.ct, s)
def vRet (f : VE) : VS := fun s => bS s.ρ (f s) fun r m => some (.rt r, ⟨s.ρ, m⟩)
theorem ps_vret {e : Expr} {f : VE} {pos : Pos} (he : PE X e (LE K W f)) : PS X (.Return (some e) pos) (LS K W (vRet f)) := PS.imp (ps_ret he) fun D σ H ⟨F, A, ρ, m, w, r⟩ =>
  ⟨F, A, ρ, m, w, (Ran.bS (rS K) r).mono fun b H1 ⟨F1, A1, m1, a, n, w1, ra, q⟩ => q.rt w1 ra⟩
def vSet (i : Nat) (f : VE) : VS := fun s => bS s.ρ (f s) fun r m => some (.nx, ⟨s.ρ.set i (some r), m⟩)
theorem ps_vset {i : Nat} {x : Str} {e : Expr} {f : VE} {pos pos' : Pos} (hN : X.N.Nodup) (hi : X.N[i]? = some x) (hx : Loc X.env.scope x) (he : PE X e (LE K W f)) (hs : swapsWith e (some (.Name x pos')) pos.line X.env = pure false := by rfl)
    (hf : X.fn x = true ∨ X.env.scope.names.lookup x = some .local := by first | exact .inl rfl | exact .inr rfl) : PS X (.Assign [.Name x pos'] e pos) (LS K W (vSet i f)) := PS.imp (ps_asg he (pg_name hN hi hx hf) (by exact hs) (by rfl)) fun D σ H ⟨F, A, ρ, m, w, r⟩ =>
  ⟨F, A, ρ, m, w, (Ran.bS (rS K) r).mono fun b H1 ⟨F1, A1, m1, a, n, w1, ra, q⟩ => q.nx (w1.set ra)⟩
def vDrop (f : VE) : VS := fun s => bS s.ρ (f s) fun _ m => some (.nx, ⟨s.ρ, m⟩)
theorem ps_vexpr {e : Expr} {f : VE} {pos : Pos} (he : PE X e (LE K W f)) (hs : swapsWith e none pos.line X.env = pure false := by rfl) : PS X (.Expr e pos) (LS K W (vDrop f)) := PS.imp (ps_expr he hs) fun D σ H ⟨F, A, ρ, m, w, r⟩ =>
  ⟨F, A, ρ, m, w, (Ran.bS (rS K) r).mono fun b H1 ⟨F1, A1, m1, a, n, w1, ra, q⟩ => q.nx w1⟩
def vIf (c : VT) (f g : VS) : VS := fun s => bS s.ρ (c s) fun b m => if b = true then f ⟨s.ρ, m⟩ else g ⟨s.ρ, m⟩
theorem ps_vif {c : Expr} {a b : List Stmt} {fc : VT} {f g : VS} {pos : Pos} (hc : PT X c (LT K W fc)) (ha : PSs X a (LS K W f)) (hb : PSs X b (LS K W g)) : PS X (.If c a b pos) (LS K W (vIf fc f g)) := PS.imp (ps_if hc ha hb) fun D σ H ⟨F, A, ρ, m, w, r⟩ =>
  ⟨F, A, ρ, m, w, (Ran.bS (fun _ _ _ b c => b = c) r).mono fun b H1 ⟨F1, A1, m1, a, n, w1, ra, q⟩ => by
    cases ra
    by_cases e : b = true
    · rw [if_pos e] at q ⊢; exact ⟨F1, A1, ρ, m1, w1, q⟩
    · rw [if_neg e] at q ⊢; exact ⟨F1, A1, ρ, m1, w1, q⟩⟩
def vTest (f : VE) : VT := fun s => bM (f s) fun r m => match r with
  | .val (.bl b) => rM b m
  | _ => none
theorem lt_test {f : VE} {σ : L2.St} {H : Hp} {Q : Bool → Hp → Prop} (h : LT K W (vTest f) σ H Q) : tB (LE K W f) σ H Q := by
  obtain ⟨F, A, ρ, m, w, g⟩ := h
  refine ⟨F, A, ρ, m, w, (Got.bind (R1 := rS K) g).mono fun x H1 ⟨F1, A1, m1, a, n, w1, ra, q⟩ => ?_⟩
  split at q
  · rename_i b
    cases ra
    exact ⟨b, rfl, q.now w1 rfl⟩
  · obtain ⟨_, _, z, _⟩ := q; cases z
theorem pt_vval {e : Expr} {f : VE} (h : PE X e (LE K W f)) (he : ∀ whole, isTrue e X.env whole = (do let v ← whole; standAt e.pos; holding [v] (truthy v)) := by intro _; rfl) : PT X e (LT K W (vTest f)) := PT.imp (pt_val h he) fun _ _ _ => lt_test
theorem pt_vcmp {op : CmpOp} {r : R2} {g : Sl → Sl → List MO → M Sl} {a b : Expr} {fa fb : VE} {pos : Pos} (ho : OpR X (compareOp op) r) (hv : OpV X.K r g) (ha : PE X a (LE X.K W fa)) (hb : PE X b (LE X.K W fb)) (hm : behindInMarks op b = false) : PT X (.Compare a [op] [b] pos) (LT X.K W (vTest (vBin g fa fb))) := by
  refine PT.imp (pt_cmpR ho ha hb hm) fun σ H Q h => ?_
  obtain ⟨F, A, ρ, m, w, g⟩ := lt_test h
  obtain ⟨F', A', ρ', m', w', g'⟩ := (show LE X.K W (vBin _ fa fb) σ H _ from ⟨F, A, ρ, m, w, g⟩)
  exact le_bin hv ⟨F', A', ρ', m', w', g'⟩
def vNot (f : VT) : VT := fun s => bM (f s) fun b m => rM (!b) m
theorem pt_vnot {a : Expr} {f : VT} {pos : Pos} (h : PT X a (LT K W f)) : PT X (.UnaryOp .Not a pos) (LT K W (vNot f)) := PT.imp (pt_not h) fun σ H Q ⟨F, A, ρ, m, w, g⟩ =>
  ⟨F, A, ρ, m, w, (Got.bind (R1 := fun _ _ _ b c => b = c) g).mono fun x H1 ⟨F1, A1, m1, a, n, w1, ra, q⟩ => by cases ra; exact q.now w1 rfl⟩
def vAnd (f g : VT) : VT := fun s => bM (f s) fun b m => if b = true then g ⟨s.ρ, m⟩ else rM false m
def vOr (f g : VT) : VT := fun s => bM (f s) fun b m => if b = true then rM true m else g ⟨s.ρ, m⟩
theorem pw_vand {a b : Expr} {rest : List Expr} {f g : VT} {pos : Pos} (ha : PT X a (LT K W f)) (hb : PW X (.BoolOp .And (b :: rest) pos) (LT K W g)) : PW X (.BoolOp .And (a :: b :: rest) pos) (LT K W (vAnd f g)) := PW.imp (pw_and ha hb) fun σ H Q ⟨F, A, ρ, m, w, g⟩ =>
  ⟨F, A, ρ, m, w, (Got.bind (R1 := fun _ _ _ b c => b = c) g).mono fun x H1 ⟨F1, A1, m1, a, n, w1, ra, q⟩ => by
    cases ra
    by_cases e : x = true
    · rw [if_pos e] at q ⊢; exact ⟨F1, A1, ρ, m1, w1, q⟩
    · rw [if_neg e] at q ⊢; exact q.now w1 rfl⟩
theorem pw_vor {a b : Expr} {rest : List Expr} {f g : VT} {pos : Pos} (ha : PT X a (LT K W f)) (hb : PW X (.BoolOp .Or (b :: rest) pos) (LT K W g)) : PW X (.BoolOp .Or (a :: b :: rest) pos) (LT K W (vOr f g)) := PW.imp (pw_or ha hb) fun σ H Q ⟨F, A, ρ, m, w, g⟩ =>
  ⟨F, A, ρ, m, w, (Got.bind (R1 := fun _ _ _ b c => b = c) g).mono fun x H1 ⟨F1, A1, m1, a, n, w1, ra, q⟩ => by
    cases ra
    by_cases e : x = true
    · rw [if_pos e] at q ⊢; exact q.now w1 rfl
    · rw [if_neg e] at q ⊢; exact ⟨F1, A1, ρ, m1, w1, q⟩⟩
theorem pw_vand1 {a : Expr} {f : VT} {pos : Pos} (ha : PT X a (LT K W f)) : PW X (.BoolOp .And [a] pos) (LT K W f) := pw_and1 ha
theorem pw_vor1 {a : Expr} {f : VT} {pos : Pos} (ha : PT X a (LT K W f)) : PW X (.BoolOp .Or [a] pos) (LT K W f) := pw_or1 ha
def vIfE (c : VT) (f g : VE) : VE := fun s => bM (c s) fun b m => if b = true then f ⟨s.ρ, m⟩ else g ⟨s.ρ, m⟩
theorem pe_vifE {c a b : Expr} {fc : VT} {f g : VE} {pos : Pos} (hc : PT X c (LT K W fc)) (ha : PE X a (LE K W f)) (hb : PE X b (LE K W g)) : PE X (.IfExp c a b pos) (LE K W (vIfE fc f g)) := PE.imp (pe_ifExp hc ha hb) fun σ H Q ⟨F, A, ρ, m, w, g⟩ =>
  ⟨F, A, ρ, m, w, (Got.bind (R1 := fun _ _ _ b c => b = c) g).mono fun x H1 ⟨F1, A1, m1, a, n, w1, ra, q⟩ => by
    cases ra
    by_cases e : x = true
    · rw [if_pos e] at q ⊢; exact ⟨F1, A1, ρ, m1, w1, q⟩
    · rw [if_neg e] at q ⊢; exact ⟨F1, A1, ρ, m1, w1, q⟩⟩
end
end Vs
end
section
namespace Vs
open PySem PySem.Spec PyProof.Rows L2
variable [WW]
def iSeq (K : PySem.W.Frag) (tl : TE) : TI := fun σ H R => tl σ H fun x H1 => ∃ a, x = .ref a ∧ (((∃ xs, SqL K H1 a xs) ∧ R (Itl K a) H1) ∨ ((∃ xs, SqT K H1 a xs) ∧ R (Itt K a) H1))
theorem pi_seq {X : Cx} {tg l : Expr} {tl : TE} (hl : PE X l tl) : PI X tg l (iSeq X.K tl) := by
  constructor
  intro pins s σ H R I h
  refine thn (hl.run pins s σ H _ I h) fun v s1 z => ?_
  rcases z with ⟨x, G, J, rx, a, rfl, z⟩
  cases rx
  have up : ∀ {o : Obj} (b : Addr) (u : Obj), s1.heap.get? b = some u → (s1.heap.push o).get? b = some u := fun b u e => Heap.get?_push_of_some _ e
  have fp : ∀ b ∈ [s1.heap.objs.size], FpOk X pins G b := fun b hb => by
    have e : b = s1.heap.objs.size := by simpa using hb
    rw [e]
    exact J.fpOk (Nat.le_refl _) (J.hok.fresh (Nat.le_refl _))
  rcases z with ⟨⟨xs, hq⟩, q⟩ | ⟨⟨xs, hq⟩, q⟩
  · rcases J.list hq with ⟨its, rv, p, _⟩
    exact wpAny_pyIter_list p.isList ⟨_, [s1.heap.objs.size], _, _, G, rfl, J.kept (t' := s1.toks) up, turn_list a _, ⟨_, Heap.get?_push_size _ rfl, rfl, rfl⟩, fp, q⟩
  · rcases J.tuple hq with ⟨its, rv, p, _⟩
    exact wpAny_pyIter_tuple (show s1.heap.IsTuple a its.toArray from p) ⟨_, [s1.heap.objs.size], _, _, G, rfl, J.kept (t' := s1.toks) up, turn_tuple a _, ⟨_, Heap.get?_push_size _ rfl, rfl, rfl⟩, fp, q⟩
section
variable {K : PySem.W.Frag} {W : WX} {X : Cx}
theorem PI.imp {tg e : Expr} {t t' : TI} (h : PI X tg e t) (k : ∀ σ H R, t' σ H R → t σ H R) : PI X tg e t' := ⟨fun pins s σ H R I z => h.run pins s σ H R I (k _ _ _ z)⟩
theorem PG.imp {tg : Expr} {t t' : TG} (h : PG X tg t) (k : ∀ v σ H Q, t' v σ H Q → t v σ H Q) : PG X tg t' := ⟨fun v u pins s σ H Q I r z => h.run v u pins s σ H Q I r (k _ _ _ _ z)⟩
def Walks (K : PySem.W.Frag) (F : Hp) (A : List Addr) (H : Hp) (J : It) (items : List T) : Prop :=
  ∀ F' A' H' m, Same F F' → Objs K F' A' m H' → ∀ i,
    (∀ t, items[i]? = some t → J.go i H' ∧ ∀ x H'', J.yld i H' x H'' → ∃ F'', Nxt F' A' H' F'' A' H'' ∧ Objs K F'' A' m H'' ∧ Rp K F'' x t) ∧ (items.length ≤ i → J.stop i H')
abbrev VI := S → M (List T)
def LI (K : PySem.W.Frag) (W : WX) (it : VI) : TI := fun σ H R => ∃ F A ρ m, Wd K F A ρ m σ H ∧ Got K W σ ρ F A H (fun F' A' H' (J : It) ts => Walks K F' A' H' J ts) (it ⟨ρ, m⟩) R
theorem walk_list {F : Hp} {A : List Addr} {H : Hp} {a : Addr} {xs : List V} {ts : List T} (s : Same F H) (h : SqL K F a xs) (r : RpL K F xs ts) : Walks K F A H (Itl K a) ts := fun F' A' H' m n o i => by
  have h' : SqL K H' a xs := o.sub.seq (n.seq h)
  refine ⟨fun t e => ?_, fun hi => ⟨xs, h', by rw [r.length]; exact hi⟩⟩
  obtain ⟨v, ev, rv⟩ := r.get e
  refine ⟨⟨xs, v, h', ev⟩, fun x H'' ⟨eH, y⟩ => ?_⟩
  subst eH
  have := y xs h'
  rw [ev] at this
  cases this
  exact ⟨F', Nxt.refl, o, rv.same n⟩
theorem walk_tup {F : Hp} {A : List Addr} {H : Hp} {a : Addr} {xs : List V} {ts : List T} (s : Same F H) (h : SqT K F a xs) (r : RpL K F xs ts) : Walks K F A H (Itt K a) ts := fun F' A' H' m n o i => by
  have h' : SqT K H' a xs := sqT_same o.sub (sqT_same n h)
  refine ⟨fun t e => ?_, fun hi => ⟨xs, h', by rw [r.length]; exact hi⟩⟩
  obtain ⟨v, ev, rv⟩ := r.get e
  refine ⟨⟨xs, v, h', ev⟩, fun x H'' ⟨eH, y⟩ => ?_⟩
  subst eH
  have := y xs h'
  rw [ev] at this
  cases this
  exact ⟨F', Nxt.refl, o, rv.same n⟩
def gSeq : Sl → List MO → M (List T)
  | .val (.lst ts), m => rM ts m
  | .val (.tup ts), m => rM ts m
  | .val (.seq ts), m => rM ts m
  | _, _ => none
def vItems (f : VE) : VI := fun s => bM (f s) gSeq
theorem pi_vseq {tg e : Expr} {f : VE} (he : PE X e (LE X.K W f)) : PI X tg e (LI X.K W (vItems f)) := PI.imp (pi_seq he) fun σ H R ⟨F, A, ρ, m, w, g⟩ =>
  ⟨F, A, ρ, m, w, (Got.bind (R1 := rS X.K) g).mono fun x H1 ⟨F1, A1, m1, a, n, w1, ra, q⟩ => by
    unfold gSeq at q
    split at q
    · cases ra with
      | lst h r => exact ⟨_, rfl, .inl ⟨⟨_, SqL.of (w1.os.sub _ _ h)⟩, q.now w1 (walk_list w1.os.sub (SqL.of h) r)⟩⟩
    · cases ra with
      | tup h r => exact ⟨_, rfl, .inr ⟨⟨_, sqT_same w1.os.sub h.1⟩, q.now w1 (walk_tup w1.os.sub h.1 r)⟩⟩
    · cases ra with
      | seq h r => exact ⟨_, rfl, .inl ⟨⟨_, w1.os.sub.seq h⟩, q.now w1 (walk_list w1.os.sub h r)⟩⟩
    · obtain ⟨_, _, z, _⟩ := q; cases z⟩
def intsT (lo : Int) : Nat → List T
  | 0 => []
  | n + 1 => .int lo :: intsT (lo + 1) n
theorem intsT_len (lo : Int) : ∀ n, (intsT lo n).length = n
  | 0 => rfl
  | n + 1 => by show (intsT (lo + 1) n).length + 1 = _; rw [intsT_len (lo + 1) n]
theorem intsT_get (lo : Int) : ∀ n i, i < n → (intsT lo n)[i]? = some (.int (lo + (i : Nat)))
  | 0, i, h => absurd h (Nat.not_lt_zero i)
  | n + 1, 0, _ => by show some (T.int lo) = _; rw [Int.natCast_zero, Int.add_zero]
  | n + 1, i + 1, h => by
    show (intsT (lo + 1) n)[i]? = _
    rw [intsT_get (lo + 1) n i (Nat.lt_of_succ_lt_succ h), Int.natCast_succ, Int.add_assoc, Int.add_comm 1]
theorem walk_range {F : Hp} {A : List Addr} {H : Hp} {lo : Int} {n : Nat} : Walks K F A H (Itr lo n) (intsT lo n) := fun F' A' H' m nx o i => by
  refine ⟨fun t e => ?_, fun hi => by rw [intsT_len] at hi; exact hi⟩
  have hi : i < n := by
    have := (List.getElem?_eq_some_iff.mp e).1
    rw [intsT_len] at this
    exact this
  rw [intsT_get lo n i hi] at e
  cases e
  refine ⟨hi, fun x H'' ⟨eH, y⟩ => ?_⟩
  subst eH y
  exact ⟨F', Nxt.refl, o, .int _⟩
def gRange : Sl → List MO → M (List T)
  | .val (.int i), m => if -1000000 ≤ i ∧ i ≤ 1000000 then rM (intsT 0 i.toNat) m else none
  | _, _ => none
def vRange (f : VE) : VI := fun s => bM (f s) gRange
def gRange2 : Sl → Sl → List MO → M (List T)
  | .val (.int i), .val (.int j), m => if (-1000000 ≤ i ∧ i ≤ 1000000) ∧ -1000000 ≤ j ∧ j ≤ 1000000 then rM (intsT i (j - i).toNat) m else none
  | _, _, _ => none
def vRange2 (f g : VE) : VI := fun s => bM (f s) fun a m1 => bM (g ⟨s.ρ, m1⟩) fun b m2 => gRange2 a b m2
theorem pi_vrange {tg e : Expr} {f : VE} {p pos : Pos} (hg : Gl X "range") (hm : X.mg "range" = none) (he : PE X e (LE X.K W f)) (hs : starEach [e] X.env = [(false, eval e X.env)] := by rfl) : PI X tg (.Call (.Name "range" p) [e] [] pos) (LI X.K W (vRange f)) := PI.imp (pi_range1 hg hm (pa_cons he pa_nil (by rw [hs]; rfl)) hs) fun σ H R ⟨F, A, ρ, m, w, g⟩ =>
  ⟨F, A, ρ, m, w, (Got.bind (R1 := rS X.K) g).mono fun x H1 ⟨F1, A1, m1, a, n, w1, ra, q⟩ => by
    unfold gRange at q
    split at q
    · rename_i m' i
      split at q
      · rename_i h
        cases ra
        exact ⟨i, rfl, by omega, by omega, q.now w1 walk_range⟩
      · obtain ⟨_, _, z, _⟩ := q; cases z
    · obtain ⟨_, _, z, _⟩ := q; cases z⟩
abbrev VG := T → List (Option Sl) → Option (List (Option Sl))
def Sam (L : List Nat) (σ σ' : L2.St) : Prop := σ'.length = σ.length ∧ ∀ j, j ∉ L → σ'[j]? = σ[j]?
theorem Sam.refl {L : List Nat} {σ : L2.St} : Sam L σ σ := ⟨rfl, fun _ _ => rfl⟩
def LG (K : PySem.W.Frag) (L : List Nat) (g : VG) : TG := fun v σ H Q => ∃ F A ρ m t ρ', Wd K F A ρ m σ H ∧ Rp K F v t ∧ g t ρ = some ρ' ∧ ∀ σ', Wd K F A ρ' m σ' H → Sam L σ σ' → Q σ' H
def vgName (i : Nat) : VG := fun t ρ => some (ρ.set i (some (.val t)))
theorem pg_vname {i : Nat} {x : Str} {pos : Pos} (hN : X.N.Nodup) (hi : X.N[i]? = some x) (hx : Loc X.env.scope x) (hf : X.fn x = true ∨ X.env.scope.names.lookup x = some .local := by first | exact .inl rfl | exact .inr rfl) : PG X (.Name x pos) (LG X.K [i] (vgName i)) :=
  PG.imp (pg_name hN hi hx hf) fun v σ H Q ⟨F, A, ρ, m, t, ρ', w, r, e, k⟩ => by
    cases e
    refine k _ (w.set (r := .val t) r) ⟨List.length_set, fun j hj => ?_⟩
    rw [List.getElem?_set_ne fun z => hj (by rw [z]; simp)]
def vLoop (g : VG) (b : VS) : List T → S → R
  | [], s => some (.nx, s)
  | t :: r, s => match g t s.ρ with
    | none => none
    | some ρ1 => match b ⟨ρ1, s.m⟩ with
      | some (.nx, s2) => vLoop g b r s2
      | some (.ct, s2) => vLoop g b r s2
      | some (.bk, s2) => some (.nx, s2)
      | x => x
def vFor (it : VI) (g : VG) (b : VS) : VS := fun s => bS s.ρ (it s) fun ts m => vLoop g b ts ⟨s.ρ, m⟩
theorem ps_vfor {tg iter : Expr} {body : List Stmt} {it : VI} {g : VG} {b : VS} {pos : Pos} (hp : PassesOwn (model X.prog X.w) X.A X.env X.xe) (hc : X.calm = true) (hi : PI X tg iter (LI X.K W it)) {L : List Nat} (hg : PG X tg (LG X.K L g)) (hb : PSs X body (LS X.K W b)) (hs : ∀ x, foldedSetIterable iter X.env x = pure x := by intro _; rfl) :
    PS X (.For tg iter body [] pos) (LS X.K W (vFor it g b)) := PS.imp (ps_for hp hc hi hg hb hs) fun D σ H ⟨F, A, ρ, m, w, r⟩ =>
  ⟨F, A, ρ, m, w, (Ran.bS (fun F' A' H' (J : It) ts => Walks X.K F' A' H' J ts) r).mono fun J H1 ⟨F1, A1, m1, ts, n1, w1, wk, q⟩ => by
    refine ⟨fun i k τ G => ∃ F' A' ρ' m', Nxt F1 A1 H1 F' A' G ∧ Wd X.K F' A' ρ' m' τ G ∧ i ≤ ts.length ∧ k = ts.length - i ∧ Ran X.K W F' A' G D (vLoop g b (ts.drop i) ⟨ρ', m'⟩), ⟨ts.length, F1, A1, ρ, m1, Nxt.refl, w1, Nat.zero_le _, rfl, q⟩, ?_⟩
    rintro i k τ G ⟨F', A', ρ', m', n', w', hi, rfl, q'⟩
    by_cases e : i < ts.length
    · have et : ts[i]? = some ts[i] := List.getElem?_eq_getElem e
      have ed : ts.drop i = ts[i] :: ts.drop (i + 1) := List.drop_eq_getElem_cons e
      obtain ⟨go, yl⟩ := (wk F' A' G m' n'.sub w'.os i).1 _ et
      refine .inr ⟨go, fun τ2 G2 => ∃ F2 A2 ρ2 m2, Nxt F1 A1 H1 F2 A2 G2 ∧ Wd X.K F2 A2 ρ2 m2 τ2 G2 ∧ Ran X.K W F2 A2 G2 D (vLoop g b (ts.drop (i + 1)) ⟨ρ2, m2⟩), fun τ2 G2 ⟨F2, A2, ρ2, m2, n2, w2, q2⟩ => ⟨ts.length - (i + 1), by omega, F2, A2, ρ2, m2, n2, w2, e, rfl, q2⟩, fun x G3 y => ?_⟩
      obtain ⟨F3, n3, o3, rx⟩ := yl x G3 y
      rw [ed] at q'
      unfold vLoop at q'
      have w3 : Wd X.K F3 A' ρ' m' τ G3 := w'.of n3.sub (List.prefix_refl _) o3
      match eg : g ts[i] ρ', q' with
      | none, q' => obtain ⟨_, _, z, _⟩ := q'; cases z
      | some ρ1, q' =>
        refine ⟨F3, A', ρ', m', _, ρ1, w3, rx, eg, fun σ' w4 _ => ?_⟩
        refine ⟨F3, A', ρ1, m', w4, ?_⟩
        have q3 := q'.later n3
        match eb : b ⟨ρ1, m'⟩, q3 with
        | none, q3 => obtain ⟨_, _, z, _⟩ := q3; simp only [eb] at z; cases z
        | some (.nx, s2), q3 => exact ⟨_, _, rfl, fun F5 A5 σ5 H5 n5 w5 => ⟨F5, A5, s2.ρ, s2.m, n'.trans (n3.trans n5), w5, by simp only [eb] at q3; exact q3.later n5⟩⟩
        | some (.ct, s2), q3 => exact ⟨_, _, rfl, fun F5 A5 σ5 H5 n5 w5 => ⟨F5, A5, s2.ρ, s2.m, n'.trans (n3.trans n5), w5, by simp only [eb] at q3; exact q3.later n5⟩⟩
        | some (.bk, s2), q3 =>
          simp only [eb] at q3
          obtain ⟨_, _, z, h⟩ := q3
          cases z
          exact ⟨_, _, rfl, h⟩
        | some (.rt r, s2), q3 =>
          simp only [eb] at q3
          obtain ⟨_, _, z, h⟩ := q3
          cases z
          exact ⟨_, _, rfl, h⟩
        | some (.ex C fs, s2), q3 =>
          simp only [eb] at q3
          obtain ⟨_, _, z, h⟩ := q3
          cases z
          exact ⟨_, _, rfl, h⟩
    · have ei : i = ts.length := by omega
      refine .inl ⟨(wk F' A' G m' n'.sub w'.os i).2 (by omega), ?_⟩
      rw [List.drop_eq_nil_of_le (by omega)] at q'
      exact q'.nx w'⟩
end
end Vs
end
section
namespace Vs
open PySem PySem.Spec PyProof.Rows L2
variable [WW]
section
variable {α γ δ : Type} {K : PySem.W.Frag} {W : WX} {X : Cx}
theorem Got.fin {σ : L2.St} {ρ : List (Option Sl)} {F F1 : Hp} {A A1 : List Addr} {H H1 : Hp} {R2 : Hp → List Addr → Hp → δ → γ → Prop} {c : γ} {m : List MO} {d : δ} {Q : δ → Hp → Prop} (h : Got K W σ ρ F A H R2 (rM c m) Q) (n : Nxt F A H F1 A1 H1) (w : Wd K F1 A1 ρ m σ H1) (r : R2 F1 A1 H1 d c) : Q d H1 := (Got.later h n).now w r
theorem Got.tup {K : PySem.W.Frag} {W : WX} {σ : L2.St} {ρ : List (Option Sl)} {F : Hp} {A : List Addr} {H : Hp} {m : List MO} {ts : List T} {xs : List V} {Q : VK} (g : Got K W σ ρ F A H (rS K) (rM (.val (.tup ts)) m) Q) (w : Wd K F A ρ m σ H) (r : RpL K F xs ts) : NewT H xs Q := fun p ob np hd =>
  g.fin (Nxt.new w.os np) (w.of (same_new (w.os.fnone np)) (List.prefix_refl _) (w.os.new np)) (show Rp K _ _ _ from .tup (SqB.new upd_same hd) (r.same (same_new (w.os.fnone np))))
theorem Nxt.back {F F1 : Hp} {A A1 : List Addr} {H H1 : Hp} {m : List MO} {p : Addr} (n : Nxt F A H F1 A1 H1) (o : Objs K F1 A1 m H1) (np : H1 p = none) : H p = none := by
  cases e : H p with
  | none => rfl
  | some u =>
    by_cases hp : p ∈ A
    · obtain ⟨β, hb⟩ := n.pre
      obtain ⟨u, z⟩ := o.there p (by rw [← hb]; exact List.mem_append_left _ hp)
      rw [np] at z; cases z
    · obtain ⟨v, ev⟩ := n.stays p u e hp; rw [ev] at np; cases np
def vNil : VA := fun s => rM [] s.m
def vCons (f : VE) (g : VA) : VA := fun s => bM (f s) fun a m1 => bM (g ⟨s.ρ, m1⟩) fun as m2 => rM (a :: as) m2
theorem pa_vnil : PA X [] (LA K W vNil) := PA.imp pa_nil fun σ H Q ⟨F, A, ρ, m, w, g⟩ => g.now w .nil
theorem pa_vcons {e : Expr} {es : List Expr} {f : VE} {g : VA} (he : PE X e (LE K W f)) (hr : PA X es (LA K W g)) (hs : starEach (e :: es) X.env = (false, eval e X.env) :: starEach es X.env := by rfl) : PA X (e :: es) (LA K W (vCons f g)) := PA.imp (pa_cons he hr hs) fun σ H Q ⟨F, A, ρ, m, w, g⟩ =>
  ⟨F, A, ρ, m, w, (Got.bind (R1 := rS K) g).mono fun x H1 ⟨F1, A1, m1, a, n1, w1, ra, g1⟩ =>
    ⟨F1, A1, ρ, m1, w1, (Got.bind (R1 := fun F' A' _ vs ss => RpSs K F' A' vs ss) g1).mono fun xs H2 ⟨F2, A2, m2, as, n2, w2, rs, g2⟩ => g2.now w2 (.cons (ra.next n2.sub n2.pre) rs)⟩⟩
def vals : List Sl → Option (List T)
  | [] => some []
  | .val t :: r => (vals r).map (t :: ·)
  | .own _ :: _ => none
theorem vals_rp {F : Hp} {A : List Addr} : ∀ {vs : List V} {ss : List Sl} {ts : List T}, RpSs K F A vs ss → vals ss = some ts → RpL K F vs ts
  | _, _, _, .nil, e => by cases e; exact .nil
  | _, .val t :: r, ts, .cons h q, e => by
    unfold vals at e
    cases z : vals r with
    | none => rw [z] at e; cases e
    | some us => rw [z] at e; cases e; exact .cons h (vals_rp q z)
  | _, .own i :: r, ts, .cons h q, e => by cases e
abbrev SZ : Nat := 1000000
theorem sz_le {n : Nat} (h : n ≤ SZ) : n ≤ sizeLine := Nat.le_trans h (by decide)
theorem sz_lt {n : Nat} (h : n < SZ) : n < sizeLine := Nat.lt_of_lt_of_le h (by decide)
def gSeqD (c : List T → T) (ss : List Sl) (m : List MO) : M Sl := match vals ss with
  | some ts => if ts.length ≤ SZ then rM (.val (c ts)) m else none
  | none => none
def vTup (f : VA) : VE := fun s => bM (f s) (gSeqD .tup)
theorem none_got {σ : L2.St} {ρ : List (Option Sl)} {F : Hp} {A : List Addr} {H : Hp} {R2 : Hp → List Addr → Hp → δ → γ → Prop} {Q : δ → Hp → Prop} {P : Prop} (h : Got K W σ ρ F A H R2 (none : M γ) Q) : P := by
  obtain ⟨_, _, z, _⟩ := h; cases z
theorem pe_vtup {es : List Expr} {k : Nat} {f : VA} {pos : Pos} (h : PA X es (LA K W f)) : PE X (.Tuple es k pos) (LE K W (vTup f)) := PE.imp (pe_tupB h) fun σ H Q ⟨F, A, ρ, m, w, g⟩ =>
  ⟨F, A, ρ, m, w, (Got.bind (R1 := fun F' A' _ vs ss => RpSs K F' A' vs ss) g).mono fun xs H1 ⟨F1, A1, m1, ss, n1, w1, rs, q⟩ => by
    unfold gSeqD at q
    cases e : vals ss with
    | none => rw [e] at q; exact none_got q
    | some ts =>
      simp only [e] at q
      have r := vals_rp rs e
      by_cases z : ts.length ≤ SZ
      · rw [if_pos z] at q
        exact ⟨by rw [r.length]; exact sz_le z, q.tup w1 r⟩
      · rw [if_neg z] at q; exact none_got q⟩
def gNew (ss : List Sl) (m : List MO) : M (List T) := match vals ss with
  | some ts => if ts.length ≤ SZ then rM ts m else none
  | none => none
theorem new_list {σ : L2.St} {ρ : List (Option Sl)} {F0 F : Hp} {A0 A : List Addr} {H0 H : Hp} {m : List MO} {Q : VK} {xs : List V} {ts : List T} {p : Addr} (n0 : Nxt F0 A0 H0 F A H) (q : Got K W σ ρ F A H (fun F' A' H' v ts => rN K F' A' H' v ts ∧ ∀ p, v = .ref p → H0 p = none) (rM ts m) Q) (w : Wd K F A ρ m σ H) (np : H p = none) (r : RpL K F xs ts) (z : ts.length ≤ SZ) : Q (.ref p) (upd H p (.lst xs)) :=
  q.fin ⟨Same.refl _, List.prefix_refl _, fun _ _ e => .inl e, fun _ h => .inl h, fun a o e _ => .inr (by rw [upd_ne (ne_of_none e np)]; exact e)⟩ (w.of (Same.refl _) (List.prefix_refl _) (w.os.keep np)) ⟨⟨p, xs, rfl, w.os.fnone np, w.os.notin np, upd_same, r, z⟩, fun p' e => by cases e; exact n0.back w.os np⟩
def vLst (f : VA) : VN := fun s => bM (f s) gNew
theorem pe_vlst {es : List Expr} {f : VA} {pos : Pos} (h : PA X es (LA K W f)) : PE X (.List es pos) (LN K W (vLst f)) := PE.imp (pe_lst h) fun σ H Q ⟨F, A, ρ, m, w, g⟩ =>
  ⟨F, A, ρ, m, w, (Got.bind (R1 := fun F' A' _ vs ss => RpSs K F' A' vs ss) g).mono fun xs H1 ⟨F1, A1, m1, ss, n1, w1, rs, q⟩ => by
    unfold gNew at q
    cases e : vals ss with
    | none => rw [e] at q; exact none_got q
    | some ts =>
      simp only [e] at q
      have r := vals_rp rs e
      by_cases z : ts.length ≤ SZ
      · rw [if_pos z] at q
        exact ⟨by rw [r.length]; exact sz_le z, fun p np => new_list n1 q w1 np r z⟩
      · rw [if_neg z] at q; exact none_got q⟩
theorem Objs.write {F : Hp} {A : List Addr} {m : List MO} {H : Hp} {i : Nat} {a : Addr} {o : MO} {u : HO} (h : Objs K F A m H) (ea : A[i]? = some a) (fa : F a = none) (mr : MRep K F A (upd H a u) a o) : Objs K F A (m.set i o) (upd H a u) where
  sub := fun b v e => by
    have ne : b ≠ a := fun z => by rw [z, fa] at e; cases e
    rw [upd_ne ne]; exact h.sub b v e
  len := by rw [List.length_set]; exact h.len
  nd := h.nd
  there := fun b hb => by
    by_cases z : b = a
    · subst z; exact ⟨_, upd_same⟩
    · rw [upd_ne z]; exact h.there b hb
  obj := fun j b v h1 h2 => by
    by_cases z : i = j
    · subst z
      rw [ea] at h1
      cases h1
      have hl : i < m.length := by
        have := (List.getElem?_eq_some_iff.mp h2).1
        rw [List.length_set] at this
        exact this
      rw [List.getElem?_set_self hl] at h2
      cases h2
      exact mr
    · rw [List.getElem?_set_ne z] at h2
      have ne : b ≠ a := fun q => by
        subst q
        obtain ⟨l1, e1⟩ := List.getElem?_eq_some_iff.mp ea
        obtain ⟨l2, e2⟩ := List.getElem?_eq_some_iff.mp h1
        exact z ((List.getElem_inj h.nd).mp (e1.trans e2.symm))
      exact (h.obj j b v h1 h2).next (Same.refl _) (List.prefix_refl _) (fun o e => by rw [upd_ne ne]; exact e) id
  gho := h.gho
  tab := fun q hq => ⟨(h.tab q hq).1, (h.tab q hq).2.next (Same.refl _) (h.tab q hq).2.1 (fun o e => by
    have ne : q.1 ≠ a := fun z => (h.tab q hq).1 (z ▸ List.mem_of_getElem? ea)
    rw [upd_ne ne]; exact e)⟩
theorem Nxt.write {F : Hp} {A : List Addr} {H : Hp} {a : Addr} {u : HO} (ha : a ∈ A) : Nxt F A H F A (upd H a u) :=
  ⟨Same.refl _, List.prefix_refl _, fun _ _ e => .inl e, fun _ h => .inl h, fun b o e hb => by
    have ne : b ≠ a := fun z => hb (by rw [z]; exact ha)
    exact .inr (by rw [upd_ne ne]; exact e)⟩
def gAppend (o : Sl) (ss : List Sl) (m : List MO) : M Sl := match o, ss with
  | .own i, [.val t] => match m[i]? with
    | some (.lst ts) => if ts.length < SZ then rM (.val .non) (m.set i (.lst (ts ++ [t]))) else none
    | _ => none
  | _, _ => none
def isLst (o : Sl) (m : List MO) : Bool := match o with
  | .own i => match m[i]? with
    | some (.lst _) => true
    | _ => false
  | _ => false
def vMet (g : Sl → List Sl → List MO → M Sl) (fo : VE) (fa : VA) : VE := fun s => bM (fo s) fun o m1 => if isLst o m1 = true then bM (fa ⟨s.ρ, m1⟩) fun ss m2 => g o ss m2 else none
def MetV (K : PySem.W.Frag) (r : V → List V → Hp → VK → Prop) (g : Sl → List Sl → List MO → M Sl) : Prop :=
  ∀ (W : WX) (F : Hp) (A : List Addr) (ρ : List (Option Sl)) (m : List MO) (σ : L2.St) (H : Hp) (x : V) (xs : List V) (a : Sl) (ss : List Sl) (Q : VK), Wd K F A ρ m σ H → RpS K F A x a → RpSs K F A xs ss → Got K W σ ρ F A H (rS K) (g a ss m) Q → r x xs H Q
theorem isLst_at {F : Hp} {A : List Addr} {m : List MO} {H : Hp} {o : Sl} {x : V} (h : Objs K F A m H) (r : RpS K F A x o) (e : isLst o m = true) : ∃ i a ts xs, o = .own i ∧ x = .ref a ∧ A[i]? = some a ∧ m[i]? = some (.lst ts) ∧ F a = none ∧ H a = some (.lst xs) ∧ RpL K F xs ts := by
  cases o with
  | val t => cases e
  | own i =>
    obtain ⟨a, h1, h2⟩ := r
    unfold isLst at e
    simp only at e
    split at e
    · rename_i ts em
      obtain ⟨fa, xs, h3, h4⟩ := h.obj i a _ h1 em
      exact ⟨i, a, ts, xs, rfl, h2, h1, em, fa, h3, h4⟩
    · cases e
theorem le_met {r : V → List V → Hp → VK → Prop} {g : Sl → List Sl → List MO → M Sl} {fo : VE} {fa : VA} (hv : MetV K r g) {σ : L2.St} {H : Hp} {Q : VK} (h : LE K W (vMet g fo fa) σ H Q) : tBM K "list" r (LE K W fo) (LA K W fa) σ H Q := by
  obtain ⟨F, A, ρ, m, w, got⟩ := h
  refine ⟨F, A, ρ, m, w, (Got.bind (R1 := rS K) got).mono fun x H1 ⟨F1, A1, m1, o, n1, w1, ro, q⟩ => ?_⟩
  by_cases e : isLst o m1 = true
  · rw [if_pos e] at q
    obtain ⟨i, a, ts, xs, rfl, rfl, ea, em, fa', eh, rl⟩ := isLst_at w1.os ro e
    refine ⟨.inl ⟨rfl, xs, SqL.of eh⟩, F1, A1, ρ, m1, w1, (Got.bind (R1 := fun F' A' _ vs ss => RpSs K F' A' vs ss) q).mono fun vs H2 ⟨F2, A2, m2, ss, n2, w2, rs, g2⟩ => ?_⟩
    exact hv W F2 A2 ρ m2 σ H2 _ vs _ ss Q w2 (RpS.next n2.sub n2.pre (s := .own i) ⟨a, ea, rfl⟩) rs g2
  · rw [if_neg e] at q; exact none_got q
theorem mv_append : MetV K rAppend gAppend := by
  intro W F A ρ m σ H x xs o ss Q w ro rs g
  unfold gAppend at g
  split at g
  · rename_i i t
    split at g
    · rename_i ts em
      by_cases z : ts.length < SZ
      · rw [if_pos z] at g
        obtain ⟨a, ea, rfl⟩ := ro
        obtain ⟨fa, ys, eh, rl⟩ := w.os.obj i a _ ea em
        cases rs with
        | cons rt r' =>
          cases r'
          refine ⟨a, ys, _, rfl, rfl, eh, by rw [rl.length]; exact sz_lt z, ?_⟩
          exact g.fin (Nxt.write (List.mem_of_getElem? ea)) (w.of (Same.refl _) (List.prefix_refl _) (w.os.write ea fa ⟨fa, _, upd_same, rl.append (.cons rt .nil)⟩)) (show Rp K F .non .non from .non)
      · rw [if_neg z] at g; exact none_got g
    · exact none_got g
  · exact none_got g
theorem pe_vappend {o e : Expr} {fo : VE} {fa : VA} {apos cpos : Pos} (ho : PE X o (LE X.K W fo)) (ha : PA X [e] (LA X.K W fa)) (hbase : attributeBase o "append" X.env (eval o X.env) = eval o X.env := by rfl)
    (hfew : ((backTo cpos (starEach (e :: []) X.env)).all (fun x => !x.1) && (backToKw cpos (keywordEach [] X.env)).all (fun x => x.1.isSome) && decide ((e :: []).length + ([] : List Keyword).length + (if ([] : List Keyword).isEmpty then 0 else 1) < 30)) = true := by rfl)
    (hline : (apos.endLine == cpos.line) = true := by rfl) (hs : starEach (e :: []) X.env = (false, eval e X.env) :: starEach [] X.env := by rfl) (hplain : (backTo cpos (starEach [] X.env)).any (·.1) = false := by rfl) :
    PE X (.Call (.Attribute o "append" apos) [e] [] cpos) (LE X.K W (vMet gAppend fo fa)) := PE.imp (pe_bm PySem.F.plainAttrs_list PySem.F.slot_list_append PySem.F.type_list_append mt_append ho ha hbase hfew hline hs hplain) fun _ _ _ => le_met mv_append
def vRetF (f : VE) : VS := fun s => bS s.ρ (f s) fun r m => match r with
  | .own i => match m[i]? with
    | some (.lst ts) => some (.rt (.val (.lst ts)), ⟨s.ρ, m.set i .dead⟩)
    | _ => none
  | _ => none
theorem freeze {F : Hp} {A : List Addr} {ρ : List (Option Sl)} {m : List MO} {σ : L2.St} {H : Hp} {i : Nat} {a : Addr} {ts : List T} {xs : List V} (w : Wd K F A ρ m σ H) (ea : A[i]? = some a) (em : m[i]? = some (.lst ts)) (fa : F a = none) (eh : H a = some (.lst xs)) :
    Nxt F A H (upd F a (.lst xs)) A H ∧ Wd K (upd F a (.lst xs)) A ρ (m.set i .dead) σ H := by
  have s1 : Same F (upd F a (.lst xs)) := same_new fa
  refine ⟨⟨s1, List.prefix_refl _, fun b u e => ?_, fun _ h => .inl h, fun _ _ e _ => .inr e⟩, w.of s1 (List.prefix_refl _) ⟨fun b u e => ?_, by rw [List.length_set]; exact w.os.len, w.os.nd, w.os.there, fun j b o h1 h2 => ?_, w.os.gho.trans s1, w.os.tabFrz fa eh⟩⟩
  · by_cases z : b = a
    · subst z; exact .inr (.inr (List.mem_of_getElem? ea))
    · rw [upd_ne z] at e; exact .inl e
  · by_cases z : b = a
    · subst z; rw [upd_same] at e; rw [eh]; exact e
    · rw [upd_ne z] at e; exact w.os.sub b u e
  · by_cases z : i = j
    · subst z
      have hl : i < m.length := by
        have := (List.getElem?_eq_some_iff.mp h2).1
        rw [List.length_set] at this
        exact this
      rw [List.getElem?_set_self hl] at h2
      cases h2
      trivial
    · rw [List.getElem?_set_ne z] at h2
      have ne : b ≠ a := fun q => by
        subst q
        obtain ⟨l1, e1⟩ := List.getElem?_eq_some_iff.mp ea
        obtain ⟨l2, e2⟩ := List.getElem?_eq_some_iff.mp h1
        exact z ((List.getElem_inj w.os.nd).mp (e1.trans e2.symm))
      exact (w.os.obj j b o h1 h2).next s1 (List.prefix_refl _) (fun _ e => e) fun e => by rw [upd_ne ne]; exact e
def vWh (c : VT) (b : VS) : Nat → S → R
  | 0, _ => none
  | n + 1, s => bS s.ρ (c s) fun t m => if t = true then (match b ⟨s.ρ, m⟩ with
      | some (.nx, s2) => vWh c b n s2
      | some (.ct, s2) => vWh c b n s2
      | some (.bk, s2) => some (.nx, s2)
      | x => x) else some (.nx, ⟨s.ρ, m⟩)
theorem ps_vwhile (N : Nat) {c : Expr} {body : List Stmt} {fc : VT} {b : VS} {pos : Pos} (hp : PassesOwn (model X.prog X.w) X.A X.env X.xe) (hc : PT X c (LT K W fc)) (hb : PSs X body (LS K W b)) : PS X (.While c body [] pos) (LS K W (vWh fc b N)) := PS.imp (ps_while hp hc hb) fun D σ H ⟨F, A, ρ, m, w, r⟩ => by
  refine ⟨fun k τ G => ∃ F' A' ρ' m', Nxt F A H F' A' G ∧ Wd K F' A' ρ' m' τ G ∧ Ran K W F' A' G D (vWh fc b k ⟨ρ', m'⟩), ⟨N, F, A, ρ, m, Nxt.refl, w, r⟩, ?_⟩
  rintro k τ G ⟨F', A', ρ', m', n', w', q⟩
  cases k with
  | zero => obtain ⟨_, _, z, _⟩ := q; cases z
  | succ k =>
    unfold vWh at q
    refine ⟨F', A', ρ', m', w', (Ran.bS (fun _ _ _ b c => b = c) q).mono fun t H1 ⟨F1, A1, m1, a, n1, w1, ra, q1⟩ => ?_⟩
    cases ra
    cases t with
    | false => rw [if_neg Bool.false_ne_true] at q1 ⊢; exact q1.nx w1
    | true =>
      rw [if_pos rfl] at q1 ⊢
      refine ⟨fun τ2 G2 => ∃ F2 A2 ρ2 m2, Nxt F A H F2 A2 G2 ∧ Wd K F2 A2 ρ2 m2 τ2 G2 ∧ Ran K W F2 A2 G2 D (vWh fc b k ⟨ρ2, m2⟩), fun τ2 G2 z => ⟨k, Nat.lt_succ_self k, z⟩, F1, A1, ρ', m1, w1, ?_⟩
      match eb : b ⟨ρ', m1⟩, q1 with
      | none, q3 => obtain ⟨_, _, z, _⟩ := q3; simp only [eb] at z; cases z
      | some (.nx, s2), q3 => exact ⟨_, _, rfl, fun F5 A5 σ5 H5 n5 w5 => ⟨F5, A5, s2.ρ, s2.m, n'.trans (n1.trans n5), w5, by simp only [eb] at q3; exact q3.later n5⟩⟩
      | some (.ct, s2), q3 => exact ⟨_, _, rfl, fun F5 A5 σ5 H5 n5 w5 => ⟨F5, A5, s2.ρ, s2.m, n'.trans (n1.trans n5), w5, by simp only [eb] at q3; exact q3.later n5⟩⟩
      | some (.bk, s2), q3 =>
        simp only [eb] at q3
        obtain ⟨_, _, z, h⟩ := q3
        cases z
        exact ⟨_, _, rfl, h⟩
      | some (.rt r, s2), q3 =>
        simp only [eb] at q3
        obtain ⟨_, _, z, h⟩ := q3
        cases z
        exact ⟨_, _, rfl, h⟩
      | some (.ex C fs, s2), q3 =>
        simp only [eb] at q3
        obtain ⟨_, _, z, h⟩ := q3
        cases z
        exact ⟨_, _, rfl, h⟩
end
end Vs
end
section
namespace Vs
open PySem PySem.Spec PyProof.Rows L2
variable [WW]
abbrev VF := List Sl → List MO → M Sl
def SpV (K : PySem.W.Frag) (np : Nat) (vf : VF) : Sp := fun vs H Q E => vs.length = np ∧ ∃ F A args m, Objs K F A m H ∧ RpSs K F A vs args ∧ ∃ o m', vf args m = some (o, m') ∧ match o with
  | .ok r => ∀ F' A' v H', Nxt F A H F' A' H' → Objs K F' A' m' H' → RpS K F' A' v r → Q v H'
  | .ex C fs => ∀ F' A' d ws H', Nxt F A H F' A' H' → Objs K F' A' m' H' → RpF K F' ws fs → XdAt H' d ws → E (.ref C) d H'
def slUnder (k : Nat) : Sl → Bool
  | .val _ => true
  | .own i => decide (i < k)
def moUnder (k : Nat) : MO → Bool
  | .rcd fs => fs.all fun p => slUnder k p.2
  | .ins _ fs => fs.all fun p => slUnder k p.2
  | .lsO ss => ss.all (slUnder k)
  | _ => true
def outUnder (k : Nat) : Out Sl → Bool
  | .ok s => slUnder k s
  | .ex _ _ => true
section
variable {K : PySem.W.Frag} {F : Hp} {A A' : List Addr}
theorem rpS_under {k : Nat} {v : V} {s : Sl} (p : A <+: A') (hk : A.length = k) (u : slUnder k s = true) (h : RpS K F A' v s) : RpS K F A v s := by
  cases s with
  | val t => exact h
  | own i =>
    obtain ⟨a, h1, h2⟩ := h
    have hi : i < A.length := by rw [hk]; exact of_decide_eq_true u
    obtain ⟨β, rfl⟩ := p
    rw [List.getElem?_append_left hi] at h1
    exact ⟨a, h1, h2⟩
theorem rpG_under {k : Nat} (p : A <+: A') (hk : A.length = k) : ∀ {vs : List (Str × V)} {fs : List (Str × Sl)}, fs.all (fun p => slUnder k p.2) = true → RpG K F A' vs fs → RpG K F A vs fs
  | _, _, _, .nil => .nil
  | _, _, u, .cons h r => by
    rw [List.all_cons, Bool.and_eq_true] at u
    exact .cons (rpS_under p hk u.1 h) (rpG_under p hk u.2 r)
theorem rpSs_under {k : Nat} (p : A <+: A') (hk : A.length = k) : ∀ {vs : List V} {ss : List Sl}, ss.all (slUnder k) = true → RpSs K F A' vs ss → RpSs K F A vs ss
  | _, _, _, .nil => .nil
  | _, _, u, .cons h r => by
    rw [List.all_cons, Bool.and_eq_true] at u
    exact .cons (rpS_under p hk u.1 h) (rpSs_under p hk u.2 r)
theorem mRep_under {k : Nat} {H : Hp} {a : Addr} {o : MO} (p : A <+: A') (hk : A.length = k) (u : moUnder k o = true) (h : MRep K F A' H a o) : MRep K F A H a o := by
  cases o with
  | lst ts => exact h
  | rcd fs => obtain ⟨z, vs, h1, h2⟩ := h; exact ⟨z, vs, h1, rpG_under p hk u h2⟩
  | ins C fs => obtain ⟨z, dx, vs, h1, h2⟩ := h; exact ⟨z, dx, vs, h1, rpG_under p hk u h2⟩
  | lsO ss => obtain ⟨z, vs, h1, h2⟩ := h; exact ⟨z, vs, h1, rpSs_under p hk u h2⟩
  | dct ps => exact h
  | dctL ps => exact h
  | dead => trivial
theorem objs_trim {m m' : List MO} {H H' : Hp} {F' : Hp} (n : Nxt F A H F' A' H') (o : Objs K F A m H) (o' : Objs K F' A' m' H') (hl : m.length ≤ m'.length) (u : (m'.take m.length).all (moUnder m.length) = true) :
    Nxt F A H F' A H' ∧ Objs K F' A (m'.take m.length) H' := by
  obtain ⟨β, hb⟩ := n.pre
  have sub : ∀ a ∈ A, a ∈ A' := fun a ha => by rw [← hb]; exact List.mem_append_left _ ha
  refine ⟨⟨n.sub, List.prefix_refl _, n.fresh, fun a ha => .inl ha, n.keepT⟩, ⟨o'.sub, by rw [List.length_take, o.len]; omega, ?_, fun a ha => o'.there a (sub a ha), fun i a v h1 h2 => ?_, o'.gho, fun q hq => ⟨fun z => (o'.tab q hq).1 (sub _ z), (o'.tab q hq).2⟩⟩⟩
  · have := o'.nd
    rw [← hb] at this
    exact (List.nodup_append.mp this).1
  · have hi : i < A.length := (List.getElem?_eq_some_iff.mp h1).1
    have h2' := h2
    rw [List.getElem?_take_of_lt (by rw [← o.len]; exact hi)] at h2
    exact mRep_under n.pre o.len (List.all_eq_true.mp u v (List.mem_of_getElem? h2')) (o'.obj i a v (pre_get n.pre h1) h2)
end
def cutO (k : Nat) (o : Out Sl) (m' : List MO) : List MO := if k ≤ m'.length ∧ outUnder k o = true ∧ (m'.take k).all (moUnder k) = true then m'.take k else m'
theorem objs_cut {K : PySem.W.Frag} {F F' : Hp} {A A' : List Addr} {H H' : Hp} {m m' : List MO} (out : Out Sl) (n : Nxt F A H F' A' H') (o : Objs K F A m H) (o' : Objs K F' A' m' H') :
    ∃ A2, Nxt F A H F' A2 H' ∧ Objs K F' A2 (cutO m.length out m') H' ∧ ∀ r v, out = .ok r → RpS K F' A' v r → RpS K F' A2 v r := by
  unfold cutO
  by_cases h : m.length ≤ m'.length ∧ outUnder m.length out = true ∧ (m'.take m.length).all (moUnder m.length) = true
  · rw [if_pos h]
    obtain ⟨n2, o2⟩ := objs_trim n o o' h.1 h.2.2
    exact ⟨A, n2, o2, fun r v e rv => by subst e; exact rpS_under n.pre o.len h.2.1 rv⟩
  · rw [if_neg h]
    exact ⟨A', n, o', fun _ _ _ rv => rv⟩
def vDef (nl : Nat) (b : VS) : VF := fun args m => match b ⟨args.map some ++ List.replicate (nl - args.length) none, m⟩ with
  | some (.rt r, s) => some (.ok r, cutO m.length (.ok r) s.m)
  | some (.nx, s) => some (.ok (.val .non), cutO m.length (.ok (.val .non)) s.m)
  | some (.ex C fs, s) => some (.ex C fs, cutO m.length (.ex C fs) s.m)
  | _ => none
theorem RpSs.length {K : PySem.W.Frag} {F : Hp} {A : List Addr} : ∀ {vs : List V} {ss : List Sl}, RpSs K F A vs ss → vs.length = ss.length
  | _, _, .nil => rfl
  | _, _, .cons _ r => by rw [List.length_cons, List.length_cons, RpSs.length r]
theorem RpSs.get {K : PySem.W.Frag} {F : Hp} {A : List Addr} : ∀ {vs : List V} {ss : List Sl} {i : Nat} {s : Sl}, RpSs K F A vs ss → ss[i]? = some s → ∃ v, vs[i]? = some v ∧ RpS K F A v s
  | _, _, i, t, .nil, e => by simp at e
  | _, _, 0, t, .cons a r, e => by
    rw [List.getElem?_cons_zero] at e
    cases e
    exact ⟨_, rfl, a⟩
  | _, _, i + 1, t, .cons a r, e => by
    rw [List.getElem?_cons_succ] at e
    obtain ⟨v, h1, h2⟩ := RpSs.get r e
    exact ⟨v, by rw [List.getElem?_cons_succ]; exact h1, h2⟩
theorem wd_start {K : PySem.W.Frag} {F : Hp} {A : List Addr} {m : List MO} {H : Hp} {N : List Str} {vs : List V} {args : List Sl} (o : Objs K F A m H) (r : RpSs K F A vs args) : Wd K F A (args.map some ++ List.replicate (N.length - args.length) none) m (L2.start N vs) H := by
  have hl := r.length
  refine ⟨o, fun i s e => ?_, ?_⟩
  · by_cases hi : i < args.length
    · rw [List.getElem?_append_left (by rw [List.length_map]; exact hi), List.getElem?_map] at e
      cases z : args[i]? with
      | none => rw [z] at e; cases e
      | some t =>
        rw [z] at e
        cases e
        obtain ⟨v, h1, h2⟩ := r.get z
        refine ⟨v, ?_, h2⟩
        unfold L2.start
        rw [List.getElem?_append_left (by rw [List.length_map, hl]; exact hi), List.getElem?_map, h1]
        rfl
    · rw [List.getElem?_append_right (by rw [List.length_map]; omega), List.getElem?_replicate] at e
      split at e <;> cases e
  · unfold L2.start
    rw [List.length_append, List.length_append, List.length_map, List.length_map, List.length_replicate, List.length_replicate, hl]
section
variable {P : Program} {w : World} {K : PySem.W.Frag} {mg : Str → Option Value} {base : Heap}
theorem okV {x qual : Str} {st : Stmt} {f : Addr} {fd : FuncData} {N ps : List Str} {k : Nat} {b : VS} (F : Fun K x qual st f fd) (S : FnScope N ps (defScope st))
    (hb : ∀ (cdv : Value) (A : Around) (outer : List Env) (s : Shared) (H : Hp) (E : XK), Room k (A.deeper (envOfC qual (defScope st) s.heap.objs.size f cdv)) →
      PSs (cxOf (L2.CX P w) P w K mg base N qual (defScope st) f cdv A outer s H E) (defBody st) (LS K (fun cls d _ H => E cls d H) b)) : FnOk P w K mg base (L2.CX P w) (k + 1) f fd ps (SpV K ps.length (vDef N.length b)) := by
  refine F.okX S (fun vs H Q E h => h.1) (fun cdv A outer s H vs Q E hr h => ⟨_, hb cdv A outer s H E hr, ?_⟩)
  obtain ⟨hl, F0, A0, args, m, o, r, out, m', ev, hq⟩ := h
  unfold vDef at ev
  refine ⟨F0, A0, _, m, wd_start (N := N) o r, ?_⟩
  split at ev
  · rename_i rr s' eb
    cases ev
    exact ⟨_, _, eb, fun F' A' σ' v H' n w' rv => let ⟨A2, n2, o2, r2⟩ := objs_cut (.ok rr) n o w'.os; hq F' A2 v H' n2 o2 (r2 _ _ rfl rv)⟩
  · rename_i s' eb
    cases ev
    exact ⟨_, _, eb, fun F' A' σ' H' n w' => let ⟨A2, n2, o2, _⟩ := objs_cut (.ok (.val .non)) n o w'.os; hq F' A2 .non H' n2 o2 (show Rp K F' .non .non from .non)⟩
  · rename_i C fs s' eb
    cases ev
    exact ⟨_, _, eb, fun F' A' σ' d ws H' n w' rf hd => let ⟨A2, n2, o2, _⟩ := objs_cut (.ex C fs) n o w'.os; hq F' A2 d ws H' n2 o2 rf hd⟩
  · cases ev
end
end Vs
end
section
namespace Vs
open PySem PySem.Spec PyProof.Rows L2
variable [WW]
def kidsF : List (Str × Sl) → List Nat
  | [] => []
  | (_, .own i) :: r => i :: kidsF r
  | _ :: r => kidsF r
def kidsL : List Sl → List Nat
  | [] => []
  | .own i :: r => i :: kidsL r
  | _ :: r => kidsL r
def kids : Option MO → List Nat
  | some (.rcd fs) => kidsF fs
  | some (.ins _ fs) => kidsF fs
  | some (.lsO ss) => kidsL ss
  | _ => []
def grow (m : List MO) : Nat → List Nat → List Nat → List Nat
  | 0, _, acc => acc
  | _, [], acc => acc
  | n + 1, i :: r, acc => if i ∈ acc then grow m n r acc else grow m n (kids m[i]? ++ r) (acc ++ [i])
def owns : List Sl → List Nat
  | [] => []
  | .own i :: r => i :: owns r
  | _ :: r => owns r
def ixOf (ids : List Nat) (i : Nat) : Option Nat := match ids with
  | [] => none
  | j :: r => if j = i then some 0 else (ixOf r i).map (· + 1)
theorem ixOf_get : ∀ {ids : List Nat} {i j : Nat}, ixOf ids i = some j → ids[j]? = some i
  | [], i, j, e => by cases e
  | k :: r, i, j, e => by
    unfold ixOf at e
    split at e
    · rename_i h; cases e; rw [h]; rfl
    · cases z : ixOf r i with
      | none => rw [z] at e; cases e
      | some n => rw [z] at e; cases e; rw [List.getElem?_cons_succ]; exact ixOf_get z
theorem ixOf_none : ∀ {ids : List Nat} {i : Nat}, ixOf ids i = none → i ∉ ids
  | [], i, _ => by simp
  | k :: r, i, e => by
    unfold ixOf at e
    split at e
    · cases e
    · rename_i h
      cases z : ixOf r i with
      | none => exact fun q => (List.mem_cons.mp q).elim (fun q => h q.symm) (ixOf_none z)
      | some n => rw [z] at e; cases e
def renS (ids : List Nat) : Sl → Option Sl
  | .val t => some (.val t)
  | .own i => (ixOf ids i).map .own
def renSs (ids : List Nat) : List Sl → Option (List Sl)
  | [] => some []
  | s :: r => match renS ids s, renSs ids r with
    | some t, some u => some (t :: u)
    | _, _ => none
def renF (ids : List Nat) : List (Str × Sl) → Option (List (Str × Sl))
  | [] => some []
  | (x, s) :: r => match renS ids s, renF ids r with
    | some t, some u => some ((x, t) :: u)
    | _, _ => none
def renM (ids : List Nat) : MO → Option MO
  | .lst ts => some (.lst ts)
  | .rcd fs => (renF ids fs).map .rcd
  | .ins C fs => (renF ids fs).map (.ins C)
  | .lsO ss => (renSs ids ss).map .lsO
  | .dct ps => some (.dct ps)
  | .dctL ps => some (.dctL ps)
  | .dead => some .dead
def renMs (ids : List Nat) (m : List MO) : List Nat → Option (List MO)
  | [] => some []
  | i :: r => match m[i]? with
    | none => none
    | some o => match renM ids o, renMs ids m r with
      | some t, some u => some (t :: u)
      | _, _ => none
def back (ids : List Nat) (k : Nat) (j : Nat) : Nat := match ids[j]? with
  | some i => i
  | none => k + (j - ids.length)
def backS (ids : List Nat) (k : Nat) : Sl → Sl
  | .val t => .val t
  | .own j => .own (back ids k j)
def backF (ids : List Nat) (k : Nat) : List (Str × Sl) → List (Str × Sl)
  | [] => []
  | (x, s) :: r => (x, backS ids k s) :: backF ids k r
def backSs (ids : List Nat) (k : Nat) : List Sl → List Sl
  | [] => []
  | s :: r => backS ids k s :: backSs ids k r
def backM (ids : List Nat) (k : Nat) : MO → MO
  | .lst ts => .lst ts
  | .rcd fs => .rcd (backF ids k fs)
  | .ins C fs => .ins C (backF ids k fs)
  | .lsO ss => .lsO (backSs ids k ss)
  | .dct ps => .dct ps
  | .dctL ps => .dctL ps
  | .dead => .dead
def putFrom (ids : List Nat) (k : Nat) (sub : List MO) : List MO → Nat → List MO
  | [], _ => []
  | o :: r, i => (match ixOf ids i with
    | some j => match sub[j]? with
      | some u => backM ids k u
      | none => o
    | none => o) :: putFrom ids k sub r (i + 1)
def putAll (ids : List Nat) (m sub : List MO) : List MO := putFrom ids m.length sub m 0 ++ (sub.drop ids.length).map (backM ids m.length)
def backO (ids : List Nat) (k : Nat) : Out Sl → Out Sl
  | .ok s => .ok (backS ids k s)
  | .ex C fs => .ex C fs
def callM (vf : VF) (args : List Sl) (m : List MO) : M Sl :=
  let ids := grow m 100 (owns args) []
  if ids.Nodup then match renSs ids args, renMs ids m ids with
    | some as, some sub => match vf as sub with
      | some (o, sub') => if ids.length ≤ sub'.length then some (backO ids m.length o, putAll ids m sub') else none
      | none => none
    | _, _ => none
  else none
theorem putFrom_len {ids : List Nat} {k : Nat} {sub : List MO} : ∀ {m : List MO} {i : Nat}, (putFrom ids k sub m i).length = m.length
  | [], _ => rfl
  | o :: r, i => by
    show (putFrom ids k sub r (i + 1)).length + 1 = _
    rw [putFrom_len, List.length_cons]
theorem putFrom_get {ids : List Nat} {k : Nat} {sub : List MO} : ∀ {m : List MO} {i n : Nat} {o : MO}, m[n]? = some o → (putFrom ids k sub m i)[n]? = some (match ixOf ids (i + n) with
    | some j => match sub[j]? with
      | some u => backM ids k u
      | none => o
    | none => o)
  | [], i, n, o, e => by simp at e
  | u :: r, i, 0, o, e => by
    rw [List.getElem?_cons_zero] at e
    cases e
    rfl
  | u :: r, i, n + 1, o, e => by
    rw [List.getElem?_cons_succ] at e
    show (putFrom ids k sub r (i + 1))[n]? = _
    rw [putFrom_get e, show i + 1 + n = i + (n + 1) by omega]
section
variable {K : PySem.W.Frag} {F : Hp} {A : List Addr}
def lent (A : List Addr) (ids : List Nat) : List Addr := ids.map fun i => A.getD i 0
theorem lent_get {ids : List Nat} {i j : Nat} {a : Addr} (h : ids[j]? = some i) (e : A[i]? = some a) : (lent A ids)[j]? = some a := by
  unfold lent
  rw [List.getElem?_map, h]
  show some (A.getD i 0) = some a
  rw [List.getD_eq_getElem?_getD, e]
  rfl
theorem renS_rp {ids : List Nat} {v : V} {s t : Sl} (e : renS ids s = some t) (h : RpS K F A v s) : RpS K F (lent A ids) v t := by
  cases s with
  | val x => cases e; exact h
  | own i =>
    obtain ⟨a, h1, h2⟩ := h
    change (ixOf ids i).map Sl.own = some t at e
    cases z : ixOf ids i with
    | none => rw [z] at e; cases e
    | some j => rw [z] at e; cases e; exact ⟨a, lent_get (ixOf_get z) h1, h2⟩
theorem renSs_rp {ids : List Nat} : ∀ {vs : List V} {ss ts : List Sl}, renSs ids ss = some ts → RpSs K F A vs ss → RpSs K F (lent A ids) vs ts
  | _, _, ts, e, .nil => by cases e; exact .nil
  | _, s :: r, ts, e, .cons h q => by
    unfold renSs at e
    split at e
    · rename_i t u e1 e2
      cases e
      exact .cons (renS_rp e1 h) (renSs_rp e2 q)
    · cases e
theorem renF_rp {ids : List Nat} : ∀ {vs : List (Str × V)} {ss ts : List (Str × Sl)}, renF ids ss = some ts → RpG K F A vs ss → RpG K F (lent A ids) vs ts
  | _, _, ts, e, .nil => by cases e; exact .nil
  | _, (x, s) :: r, ts, e, .cons h q => by
    unfold renF at e
    split at e
    · rename_i t u e1 e2
      cases e
      exact .cons (renS_rp e1 h) (renF_rp e2 q)
    · cases e
theorem renM_rp {ids : List Nat} {H : Hp} {a : Addr} {o u : MO} (e : renM ids o = some u) (h : MRep K F A H a o) : MRep K F (lent A ids) H a u := by
  cases o with
  | lst ts => cases e; exact h
  | rcd fs =>
    obtain ⟨z, vs, h1, h2⟩ := h
    change (renF ids fs).map MO.rcd = some u at e
    cases y : renF ids fs with
    | none => rw [y] at e; cases e
    | some g => rw [y] at e; cases e; exact ⟨z, vs, h1, renF_rp y h2⟩
  | ins C fs =>
    obtain ⟨z, dx, vs, h1, h2⟩ := h
    change (renF ids fs).map (MO.ins C) = some u at e
    cases y : renF ids fs with
    | none => rw [y] at e; cases e
    | some g => rw [y] at e; cases e; exact ⟨z, dx, vs, h1, renF_rp y h2⟩
  | lsO ss =>
    obtain ⟨z, vs, h1, h2⟩ := h
    change (renSs ids ss).map MO.lsO = some u at e
    cases y : renSs ids ss with
    | none => rw [y] at e; cases e
    | some g => rw [y] at e; cases e; exact ⟨z, vs, h1, renSs_rp y h2⟩
  | dct ps => cases e; exact h
  | dctL ps => cases e; exact h
  | dead => cases e; trivial
theorem renMs_len {ids : List Nat} {m : List MO} : ∀ {l : List Nat} {sub : List MO}, renMs ids m l = some sub → sub.length = l.length
  | [], sub, e => by cases e; rfl
  | i :: r, sub, e => by
    unfold renMs at e
    split at e
    · cases e
    · split at e
      · rename_i t u _ e2
        cases e
        rw [List.length_cons, List.length_cons, renMs_len e2]
      · cases e
theorem renMs_get {ids : List Nat} {m : List MO} : ∀ {l : List Nat} {sub : List MO} {j : Nat} {u : MO}, renMs ids m l = some sub → sub[j]? = some u → ∃ i o, l[j]? = some i ∧ m[i]? = some o ∧ renM ids o = some u
  | [], sub, j, u, e, h => by cases e; simp at h
  | i :: r, sub, j, u, e, h => by
    unfold renMs at e
    split at e
    · cases e
    · rename_i o eo
      split at e
      · rename_i t us e1 e2
        cases e
        cases j with
        | zero => rw [List.getElem?_cons_zero] at h; cases h; exact ⟨i, o, rfl, eo, e1⟩
        | succ j =>
          rw [List.getElem?_cons_succ] at h
          obtain ⟨i', o', h1, h2, h3⟩ := renMs_get e2 h
          exact ⟨i', o', by rw [List.getElem?_cons_succ]; exact h1, h2, h3⟩
      · cases e
theorem renMs_in {ids : List Nat} {m : List MO} : ∀ {l : List Nat} {sub : List MO}, renMs ids m l = some sub → ∀ i ∈ l, i < m.length
  | [], sub, e, i, h => by simp at h
  | k :: r, sub, e, i, h => by
    unfold renMs at e
    split at e
    · cases e
    · rename_i o eo
      split at e
      · rename_i t us e1 e2
        rcases List.mem_cons.mp h with rfl | h
        · exact (List.getElem?_eq_some_iff.mp eo).1
        · exact renMs_in e2 i h
      · cases e
theorem lent_mem {ids : List Nat} {a : Addr} (hi : ∀ i ∈ ids, i < A.length) (h : a ∈ lent A ids) : ∃ i ∈ ids, A[i]? = some a := by
  obtain ⟨i, h1, h2⟩ := List.mem_map.mp h
  refine ⟨i, h1, ?_⟩
  have e : A[i]? = some (A[i]'(hi i h1)) := List.getElem?_eq_getElem (hi i h1)
  rw [List.getD_eq_getElem?_getD, e] at h2
  rw [e, ← h2]
  rfl
theorem lent_nodup {ids : List Nat} (hn : ids.Nodup) (hA : A.Nodup) (hi : ∀ i ∈ ids, i < A.length) : (lent A ids).Nodup := by
  unfold lent
  refine List.pairwise_map.mpr (List.Pairwise.imp_of_mem (fun {i j} hi' hj' ne q => ne ?_) hn)
  have e1 : A[i]? = some (A[i]'(hi i hi')) := List.getElem?_eq_getElem (hi i hi')
  have e2 : A[j]? = some (A[j]'(hi j hj')) := List.getElem?_eq_getElem (hi j hj')
  rw [List.getD_eq_getElem?_getD, List.getD_eq_getElem?_getD, e1, e2] at q
  exact (List.getElem_inj hA).mp q
theorem objs_lent {ids : List Nat} {m sub : List MO} {H : Hp} (o : Objs K F A m H) (hn : ids.Nodup) (e : renMs ids m ids = some sub) : Objs K F (lent A ids) sub H := by
  have hin : ∀ i ∈ ids, i < A.length := fun i h => by rw [o.len]; exact renMs_in e i h
  refine ⟨o.sub, by rw [renMs_len e]; exact List.length_map .., lent_nodup hn o.nd hin, fun a ha => ?_, fun j a u h1 h2 => ?_, o.gho, fun q hq => ⟨fun z => let ⟨i, _, w⟩ := lent_mem hin z; (o.tab q hq).1 (List.mem_of_getElem? w), (o.tab q hq).2⟩⟩
  · obtain ⟨i, _, q⟩ := lent_mem hin ha
    exact o.there a (List.mem_of_getElem? q)
  · obtain ⟨i, v, h3, h4, h5⟩ := renMs_get e h2
    have hi := hin i (List.mem_of_getElem? h3)
    have ea : A[i]? = some A[i] := List.getElem?_eq_getElem hi
    rw [lent_get h3 ea] at h1
    cases h1
    exact renM_rp h5 (o.obj i _ v ea h4)
end
section
variable {K : PySem.W.Frag} {F' : Hp} {B A' : List Addr} {ids : List Nat} {k : Nat}
theorem backS_rp (key : ∀ (j : Nat) (a : Addr), B[j]? = some a → A'[back ids k j]? = some a) {v : V} {s : Sl} (h : RpS K F' B v s) : RpS K F' A' v (backS ids k s) := by
  cases s with
  | val t => exact h
  | own j => obtain ⟨a, h1, h2⟩ := h; exact ⟨a, key j a h1, h2⟩
theorem backF_rp (key : ∀ (j : Nat) (a : Addr), B[j]? = some a → A'[back ids k j]? = some a) : ∀ {vs : List (Str × V)} {fs : List (Str × Sl)}, RpG K F' B vs fs → RpG K F' A' vs (backF ids k fs)
  | _, _, .nil => .nil
  | _, _, .cons h r => .cons (backS_rp key h) (backF_rp key r)
theorem backSs_rp (key : ∀ (j : Nat) (a : Addr), B[j]? = some a → A'[back ids k j]? = some a) : ∀ {vs : List V} {ss : List Sl}, RpSs K F' B vs ss → RpSs K F' A' vs (backSs ids k ss)
  | _, _, .nil => .nil
  | _, _, .cons h r => .cons (backS_rp key h) (backSs_rp key r)
theorem backM_rp (key : ∀ (j : Nat) (a : Addr), B[j]? = some a → A'[back ids k j]? = some a) {H : Hp} {a : Addr} {o : MO} (h : MRep K F' B H a o) : MRep K F' A' H a (backM ids k o) := by
  cases o with
  | lst ts => exact h
  | rcd fs => obtain ⟨z, vs, h1, h2⟩ := h; exact ⟨z, vs, h1, backF_rp key h2⟩
  | ins C fs => obtain ⟨z, dx, vs, h1, h2⟩ := h; exact ⟨z, dx, vs, h1, backF_rp key h2⟩
  | lsO ss => obtain ⟨z, vs, h1, h2⟩ := h; exact ⟨z, vs, h1, backSs_rp key h2⟩
  | dct ps => exact h
  | dctL ps => exact h
  | dead => trivial
end
theorem objs_back {K : PySem.W.Frag} {F F' : Hp} {A B : List Addr} {H H' : Hp} {m sub sub' : List MO} {ids : List Nat} (o : Objs K F A m H) (hn : ids.Nodup) (e : renMs ids m ids = some sub) (n : Nxt F (lent A ids) H F' B H') (o' : Objs K F' B sub' H') (hl : ids.length ≤ sub'.length) :
    Nxt F A H F' (A ++ B.drop ids.length) H' ∧ Objs K F' (A ++ B.drop ids.length) (putAll ids m sub') H' ∧ ∀ (j : Nat) (a : Addr), B[j]? = some a → (A ++ B.drop ids.length)[back ids m.length j]? = some a := by
  have hin : ∀ i ∈ ids, i < A.length := fun i h => by rw [o.len]; exact renMs_in e i h
  have ll : (lent A ids).length = ids.length := List.length_map ..
  obtain ⟨β, hβ⟩ := n.pre
  have hd : B.drop ids.length = β := by rw [← hβ, ← ll, List.drop_left]
  rw [hd]
  have inA : ∀ a ∈ lent A ids, a ∈ A := fun a ha => by
    obtain ⟨i, _, q⟩ := lent_mem hin ha
    exact List.mem_of_getElem? q
  have ndB := o'.nd
  rw [← hβ] at ndB
  have apart := (List.nodup_append.mp ndB).2.2
  have newβ : ∀ a ∈ β, H a = none := fun a ha => by
    rcases n.news a (by rw [← hβ]; exact List.mem_append_right _ ha) with z | z
    · exact absurd rfl (apart a z a ha)
    · exact z
  have notA : ∀ a ∈ β, a ∉ A := fun a ha q => by
    obtain ⟨u, z⟩ := o.there a q
    rw [newβ a ha] at z; cases z
  have key : ∀ (j : Nat) (a : Addr), B[j]? = some a → (A ++ β)[back ids m.length j]? = some a := fun j a h => by
    unfold back
    cases z : ids[j]? with
    | some i =>
      have hi := hin i (List.mem_of_getElem? z)
      have ea : A[i]? = some A[i] := List.getElem?_eq_getElem hi
      have hj : j < (lent A ids).length := by rw [ll]; exact (List.getElem?_eq_some_iff.mp z).1
      rw [← hβ, List.getElem?_append_left hj, lent_get z ea] at h
      show (A ++ β)[i]? = some a
      rw [List.getElem?_append_left hi, ea]
      exact h
    | none =>
      have hj : ids.length ≤ j := List.getElem?_eq_none_iff.mp z
      rw [← hβ, List.getElem?_append_right (by rw [ll]; exact hj), ll] at h
      show (A ++ β)[m.length + (j - ids.length)]? = some a
      rw [List.getElem?_append_right (by rw [o.len]; omega), o.len, Nat.add_sub_cancel_left]
      exact h
  refine ⟨⟨n.sub, List.prefix_append _ _, fun a u z => ?_, fun a ha => ?_, fun a u z ha => n.keepT a u z fun q => ha (inA a q)⟩, ⟨o'.sub, ?_, ?_, fun a ha => ?_, fun i a u h1 h2 => ?_, o'.gho, fun q hq => ⟨fun z => (List.mem_append.mp z).elim (o.tab q hq).1 fun z => (o'.tab q hq).1 (by rw [← hβ]; exact List.mem_append_right _ z), (o'.tab q hq).2⟩⟩, key⟩
  · rcases n.fresh a u z with q | q | q
    · exact .inl q
    · exact .inr (.inl q)
    · exact .inr (.inr (inA a q))
  · rcases List.mem_append.mp ha with q | q
    · exact .inl q
    · exact .inr (newβ a q)
  · unfold putAll
    have lB := o'.len
    rw [← hβ, List.length_append, ll] at lB
    rw [List.length_append, List.length_append, putFrom_len, List.length_map, List.length_drop, o.len]
    omega
  · exact List.nodup_append.mpr ⟨o.nd, (List.nodup_append.mp ndB).2.1, fun a ha b hb q => notA b hb (q ▸ ha)⟩
  · rcases List.mem_append.mp ha with q | q
    · by_cases z : a ∈ lent A ids
      · exact o'.there a (by rw [← hβ]; exact List.mem_append_left _ z)
      · obtain ⟨u, z2⟩ := o.there a q
        exact n.stays a u z2 z
    · exact o'.there a (by rw [← hβ]; exact List.mem_append_right _ q)
  · unfold putAll at h2
    by_cases hi : i < A.length
    · rw [List.getElem?_append_left hi] at h1
      rw [List.getElem?_append_left (by rw [putFrom_len, ← o.len]; exact hi)] at h2
      have em : m[i]? = some (m[i]'(by rw [← o.len]; exact hi)) := List.getElem?_eq_getElem _
      rw [putFrom_get em, Nat.zero_add] at h2
      cases z : ixOf ids i with
      | some j =>
        rw [z] at h2
        have hij := ixOf_get z
        have hj : j < ids.length := (List.getElem?_eq_some_iff.mp hij).1
        have es : sub'[j]? = some (sub'[j]'(by omega)) := List.getElem?_eq_getElem _
        simp only [es] at h2
        cases h2
        have eB : B[j]? = some a := by rw [← hβ, List.getElem?_append_left (by rw [ll]; exact hj)]; exact lent_get hij h1
        exact backM_rp key (o'.obj j a _ eB es)
      | none =>
        rw [z] at h2
        cases h2
        have nl : a ∉ lent A ids := fun q => by
          obtain ⟨i2, q1, q2⟩ := lent_mem hin q
          obtain ⟨l1, e1⟩ := List.getElem?_eq_some_iff.mp h1
          obtain ⟨l2, e2⟩ := List.getElem?_eq_some_iff.mp q2
          have : i = i2 := (List.getElem_inj o.nd).mp (e1.trans e2.symm)
          exact ixOf_none z (this ▸ q1)
        refine (o.obj i a _ h1 em).nextT n.sub (List.prefix_append _ _) (fun u q no => n.keep a u q nl no) fun fa => ?_
        cases q : F' a with
        | none => rfl
        | some u =>
          obtain ⟨w, tw⟩ := o.there a (List.mem_of_getElem? h1)
          rcases n.fresh a u q with y | y | y
          · rw [fa] at y; cases y
          · rw [tw] at y; cases y
          · exact absurd y nl
    · have hi' : A.length ≤ i := Nat.le_of_not_lt hi
      rw [List.getElem?_append_right hi'] at h1
      rw [List.getElem?_append_right (by rw [putFrom_len, ← o.len]; exact hi'), putFrom_len, ← o.len, List.getElem?_map, List.getElem?_drop] at h2
      cases z : sub'[ids.length + (i - A.length)]? with
      | none => rw [z] at h2; cases h2
      | some w =>
        rw [z] at h2
        cases h2
        have eB : B[ids.length + (i - A.length)]? = some a := by
          rw [← hβ, List.getElem?_append_right (by rw [ll]; omega), ll, Nat.add_sub_cancel_left]
          exact h1
        have := backM_rp key (o'.obj _ a _ eB z)
        rw [o.len]
        exact this
def vCall (vf : VF) (fa : VA) : VE := fun s => bM (fa s) fun ss m => callM vf ss m
section
variable {K : PySem.W.Frag} {W : WX} {X : Cx}
theorem call_got {np : Nat} {vf : VF} {F : Hp} {A : List Addr} {ρ : List (Option Sl)} {m : List MO} {σ : L2.St} {H : Hp} {vs : List V} {ss : List Sl} {Q : VK} (hl : vs.length = np) (w : Wd K F A ρ m σ H) (rs : RpSs K F A vs ss) (g : Got K W σ ρ F A H (rS K) (callM vf ss m) Q) : SpV K np vf vs H Q (WE W σ) := by
  unfold callM at g
  simp only at g
  generalize grow m 100 (owns ss) [] = ids at g
  split at g
  · rename_i hn
    split at g
    · rename_i as sub e1 e2
      split at g
      · rename_i o sub' ev
        split at g
        · rename_i hk
          refine ⟨hl, F, lent A ids, as, sub, objs_lent w.os hn e2, renSs_rp e1 rs, o, sub', ev, ?_⟩
          obtain ⟨oo, mm, ee, g⟩ := g
          cases ee
          cases o with
          | ok r =>
            intro F' B v H' n o' rv
            obtain ⟨n2, o2, key⟩ := objs_back w.os hn e2 n o' hk
            exact g F' _ v H' n2 (w.of n2.sub n2.pre o2) (backS_rp key rv)
          | ex C fs =>
            intro F' B d ws H' n o' rf hd
            obtain ⟨n2, o2, key⟩ := objs_back w.os hn e2 n o' hk
            exact g F' _ d ws H' n2 (w.of n2.sub n2.pre o2) rf hd
        · exact none_got g
      · exact none_got g
    · exact none_got g
  · exact none_got g
theorem le_call {np : Nat} {vf : VF} {fa : VA} (hn : ∀ s ss m, fa s = some (.ok ss, m) → ss.length = np) {σ : L2.St} {H : Hp} {Q : VK} (h : LE K W (vCall vf fa) σ H Q) : tCallS (SpV K np vf) (WE W) (LA K W fa) σ H Q := by
  obtain ⟨F, A, ρ, m, w, g⟩ := h
  refine ⟨F, A, ρ, m, w, ?_⟩
  match e : fa ⟨ρ, m⟩, g with
  | none, g => unfold vCall at g; rw [e] at g; exact none_got g
  | some (.ex C fs, m1), g =>
    unfold vCall at g
    rw [e] at g
    obtain ⟨_, _, z, g⟩ := g
    cases z
    exact ⟨_, _, rfl, g⟩
  | some (.ok ss, m1), g =>
    unfold vCall at g
    rw [e] at g
    have hl := hn _ _ _ e
    exact ⟨_, _, rfl, fun F1 A1 vs H1 n1 w1 rs => call_got (by rw [RpSs.length rs]; exact hl) w1 rs (Got.later g n1)⟩
end
theorem vnil_len : ∀ s ss m, vNil s = some (.ok ss, m) → ss.length = 0 := fun s ss m e => by cases e; rfl
theorem vcons_len {f : VE} {g : VA} {n : Nat} (h : ∀ s ss m, g s = some (.ok ss, m) → ss.length = n) : ∀ s ss m, vCons f g s = some (.ok ss, m) → ss.length = n + 1 := fun s ss m e => by
  unfold vCons bM at e
  split at e
  · cases e
  · rename_i a m1 _
    simp only at e
    split at e
    · cases e
    · rename_i as m2 z
      cases e
      rw [List.length_cons, h _ _ _ z]
    · cases e
  · cases e
section
variable {W : WX} {X : Cx}
theorem pe_vcall {np k : Nat} {f : Addr} {fd : FuncData} {ps : List Str} {vf : VF} {fa : VA} {x : Str} {e : Expr} {es : List Expr} {p pos : Pos} (F : FnOk X.prog X.w X.K X.mg X.base (L2.CX X.prog X.w) k f fd ps (SpV X.K np vf)) (hr : Room k X.A) (hg : Gl X x) (hm : X.mg x = some (.ref f)) (hk : PySem.W.keepIn X.K (.ref f) = true) (hb : Binds X.K fd ps []) (tk : Takes X W)
    (ha : PA X (e :: es) (LA X.K W fa)) (hn : ∀ s ss m, fa s = some (.ok ss, m) → ss.length = np) (hdb : (x == ("__debug__" : Str)) = false := by decide) (he : starEach (e :: es) X.env = (false, eval e X.env) :: starEach es X.env := by rfl) (hpl : (backTo pos (starEach es X.env)).any (·.1) = false := by rfl) :
    PE X (.Call (.Name x p) (e :: es) [] pos) (LE X.K W (vCall vf fa)) := PE.imp (pe_callS F hr hg hm hk hb (fun σ => passAt tk σ) ha hdb he hpl) fun _ _ _ => le_call hn
end
end Vs
end
section
namespace Vs
open PySem PySem.Spec PyProof.Rows L2
variable [WW]
section
variable {K : PySem.W.Frag} {W : WX} {X : Cx}
theorem OpR.or {f : Value → Value → Sem Value} {r r' : R2} (h : OpR X f r) (h' : OpR X f r') : OpR X f (fun x y H Q => r x y H Q ∨ r' x y H Q) := fun pins s σ H x y v u Q I rx ry q => q.elim (h pins s σ H x y v u Q I rx ry) (h' pins s σ H x y v u Q I rx ry)
theorem CallR.or' {f : Value} {r r' : List V → Hp → VK → Prop} (h : CallR X f r) (h' : CallR X f r') : CallR X f (fun xs H Q => r xs H Q ∨ r' xs H Q) := fun pins s σ H xs us Q I rx q => q.elim (h pins s σ H xs us Q I rx) (h' pins s σ H xs us Q I rx)
def lstOf (s : Sl) (m : List MO) : Option (List T) := match s with
  | .val (.lst ts) => some ts
  | .own i => match m[i]? with
    | some (.lst ts) => some ts
    | _ => none
  | _ => none
theorem lstOf_at {F : Hp} {A : List Addr} {m : List MO} {H : Hp} {s : Sl} {x : V} {ts : List T} (o : Objs K F A m H) (r : RpS K F A x s) (e : lstOf s m = some ts) : ∃ a xs, x = .ref a ∧ H a = some (.lst xs) ∧ RpL K F xs ts := by
  unfold lstOf at e
  split at e
  · cases e
    cases r with
    | lst h q => exact ⟨_, _, rfl, o.sub _ _ h, q⟩
  · split at e
    · rename_i i _ ts' em
      cases e
      obtain ⟨a, ea, rfl⟩ := r
      obtain ⟨_, xs, h1, h2⟩ := o.obj i a _ ea em
      exact ⟨a, xs, rfl, h1, h2⟩
    · cases e
  · cases e
def seqOf (s : Sl) (m : List MO) : Option (List T) := match lstOf s m with
  | some ts => some ts
  | none => match s with
    | .val (.tup ts) => some ts
    | .val (.seq ts) => some ts
    | _ => none
theorem seqOf_at {F : Hp} {A : List Addr} {m : List MO} {H : Hp} {s : Sl} {x : V} {ts : List T} (o : Objs K F A m H) (r : RpS K F A x s) (e : seqOf s m = some ts) : ∃ a xs, x = .ref a ∧ (SqL K H a xs ∨ SqT K H a xs) ∧ RpL K F xs ts := by
  unfold seqOf at e
  split at e
  · rename_i us eu
    cases e
    obtain ⟨a, xs, h1, h2, h3⟩ := lstOf_at o r eu
    exact ⟨a, xs, h1, .inl (SqL.of h2), h3⟩
  · split at e
    · cases e
      cases r with
      | tup h q => exact ⟨_, _, rfl, .inr (sqT_same o.sub h.1), q⟩
    · cases e
      cases r with
      | seq h q => exact ⟨_, _, rfl, .inl (o.sub.seq h), q⟩
    · cases e
abbrev relN (K : PySem.W.Frag) (H0 : Hp) : Hp → List Addr → Hp → V → List T → Prop := fun F' A' H' v ts => rN K F' A' H' v ts ∧ ∀ p, v = .ref p → H0 p = none
def OpVN (K : PySem.W.Frag) (r : R2) (g : Sl → Sl → List MO → M (List T)) : Prop :=
  ∀ (W : WX) (F0 F : Hp) (A0 A : List Addr) (ρ : List (Option Sl)) (m : List MO) (σ : L2.St) (H0 H : Hp) (x y : V) (a b : Sl) (Q : VK), Nxt F0 A0 H0 F A H → Wd K F A ρ m σ H → RpS K F A x a → RpS K F A y b → Got K W σ ρ F A H (relN K H0) (g a b m) Q → r x y H Q
def vBinN (g : Sl → Sl → List MO → M (List T)) (fa fb : VE) : VN := fun s => bM (fa s) fun a m1 => bM (fb ⟨s.ρ, m1⟩) fun b m2 => g a b m2
theorem le_binN {r : R2} {g : Sl → Sl → List MO → M (List T)} {fa fb : VE} (hv : OpVN K r g) {σ : L2.St} {H : Hp} {Q : VK} (h : LN K W (vBinN g fa fb) σ H Q) : tOp r (LE K W fa) (LE K W fb) σ H Q := by
  obtain ⟨F, A, ρ, m, w, got⟩ := h
  refine ⟨F, A, ρ, m, w, (Got.bind (R1 := rS K) got).mono fun x H1 z => ?_⟩
  obtain ⟨F1, A1, m1, a, n1, w1, ra, g1⟩ := z
  refine ⟨F1, A1, ρ, m1, w1, (Got.bind (R1 := rS K) g1).mono fun y H2 z => ?_⟩
  obtain ⟨F2, A2, m2, b, n2, w2, rb, g2⟩ := z
  exact hv W F F2 A A2 ρ m2 σ H H2 x y a b Q (n1.trans n2) w2 (ra.next n2.sub n2.pre) rb g2
theorem pe_vopN {op : Operator} {r : R2} {g : Sl → Sl → List MO → M (List T)} {a b : Expr} {fa fb : VE} {pos : Pos} (ho : OpR X (binaryOp op) r) (hv : OpVN X.K r g) (ha : PE X a (LE X.K W fa)) (hb : PE X b (LE X.K W fb)) : PE X (.BinOp a op b pos) (LN X.K W (vBinN g fa fb)) := PE.imp (pe_op ho ha hb) fun _ _ _ => le_binN hv
def gAdd : Sl → Sl → List MO → M Sl
  | .val (.int i), .val (.int j), m => rM (.val (.int (i + j))) m
  | .val (.str x), .val (.str y), m => if x.length + y.length ≤ SZ then rM (.val (.str (x ++ y))) m else none
  | .val (.tup ts), .val (.tup us), m => if ts.length + us.length ≤ SZ then rM (.val (.tup (ts ++ us))) m else none
  | _, _, _ => none
abbrev rAdd (K : PySem.W.Frag) : R2 := fun x y H Q => (rI0 (fun i j => .int (i + j)) x y H Q ∨ (∃ i j, x = .str i ∧ y = .str j ∧ i.length + j.length ≤ sizeLine ∧ Q (.str (i ++ j)) H)) ∨ rCatB K x y H Q
theorem op_vadd : OpR X (binaryOp .Add) (rAdd X.K) := OpR.or (OpR.or op_add op_add_str) op_catB
theorem ov_add : OpV K (rAdd K) gAdd := by
  intro W F A ρ m σ H x y a b Q w ra rb g
  unfold gAdd at g
  split at g
  · cases ra; cases rb
    exact .inl (.inl ⟨_, _, rfl, rfl, g.now w (.int _)⟩)
  · split at g
    · rename_i h
      cases ra; cases rb
      exact .inl (.inr ⟨_, _, rfl, rfl, sz_le h, g.now w (.str _)⟩)
    · exact none_got g
  · split at g
    · rename_i ts us h
      cases ra with
      | tup h1 r1 =>
        cases rb with
        | tup h2 r2 =>
          have l1 := r1.length
          have l2 := r2.length
          refine .inr ⟨_, _, _, _, rfl, rfl, sqT_same w.os.sub h1.1, sqT_same w.os.sub h2.1, by rw [l1, l2]; exact sz_le h, fun e => ?_, fun e1 e2 => ?_, fun _ _ => g.tup w (r1.append r2)⟩
          · subst e
            cases r1
            exact g.now w (.tup h2 r2)
          · subst e2
            cases r2
            rw [List.append_nil] at g
            exact g.now w (.tup h1 r1)
    · exact none_got g
  · exact none_got g
theorem pe_vadd {a b : Expr} {fa fb : VE} {pos : Pos} (ha : PE X a (LE X.K W fa)) (hb : PE X b (LE X.K W fb)) : PE X (.BinOp a .Add b pos) (LE X.K W (vBin gAdd fa fb)) := pe_vop op_vadd ov_add ha hb
def gCat (a b : Sl) (m : List MO) : M (List T) := match lstOf a m, lstOf b m with
  | some ts, some us => if ts.length + us.length ≤ SZ then rM (ts ++ us) m else none
  | _, _ => none
theorem ov_cat : OpVN K rCat gCat := by
  intro W F0 F A0 A ρ m σ H0 H x y a b Q n w ra rb g
  unfold gCat at g
  split at g
  · rename_i ts us e1 e2
    split at g
    · rename_i h
      obtain ⟨p, xs, rfl, h1, r1⟩ := lstOf_at w.os ra e1
      obtain ⟨q, ys, rfl, h2, r2⟩ := lstOf_at w.os rb e2
      exact ⟨p, q, xs, ys, rfl, rfl, h1, h2, by rw [r1.length, r2.length]; exact sz_le h, fun l nl => new_list n g w nl (r1.append r2) (by rw [List.length_append]; exact h)⟩
    · exact none_got g
  · exact none_got g
theorem pe_vcat {a b : Expr} {fa fb : VE} {pos : Pos} (ha : PE X a (LE X.K W fa)) (hb : PE X b (LE X.K W fb)) : PE X (.BinOp a .Add b pos) (LN X.K W (vBinN gCat fa fb)) := pe_vopN op_cat ov_cat ha hb
theorem pe_vsub {a b : Expr} {fa fb : VE} {pos : Pos} (ha : PE X a (LE X.K W fa)) (hb : PE X b (LE X.K W fb)) : PE X (.BinOp a .Sub b pos) (LE X.K W (vBin (gInt fun i j => .int (i - j)) fa fb)) := pe_vop op_sub (ov_int fun _ _ _ => .int _) ha hb
def gIntC (c : Int → Int → Bool) (f : Int → Int → T) : Sl → Sl → List MO → M Sl
  | .val (.int i), .val (.int j), m => if c i j = true then rM (.val (f i j)) m else none
  | _, _, _ => none
theorem ov_intC {C : Int → Int → Prop} {c : Int → Int → Bool} {f : Int → Int → V} {f' : Int → Int → T} (hc : ∀ i j, c i j = true → C i j) (hf : ∀ F i j, Rp K F (f i j) (f' i j)) : OpV K (rI C f) (gIntC c f') := by
  intro W F A ρ m σ H x y a b Q w ra rb g
  unfold gIntC at g
  split at g
  · rename_i m' i j
    split at g
    · rename_i h
      cases ra
      cases rb
      exact ⟨i, j, rfl, rfl, hc i j h, g.now w (hf F i j)⟩
    · exact none_got g
  · exact none_got g
def cMul (i j : Int) : Bool := decide ((-(2 ^ 64) < i ∧ i < 2 ^ 64) ∨ (-(2 ^ 64) < j ∧ j < 2 ^ 64))
theorem cMul_ok (i j : Int) (h : cMul i j = true) : CMul i j := by
  unfold cMul at h
  have h2 := of_decide_eq_true h
  exact h2
theorem pe_vmul {a b : Expr} {fa fb : VE} {pos : Pos} (ha : PE X a (LE X.K W fa)) (hb : PE X b (LE X.K W fb)) : PE X (.BinOp a .Mult b pos) (LE X.K W (vBin (gIntC cMul fun i j => .int (i * j)) fa fb)) := pe_vop op_mul (ov_intC cMul_ok fun _ _ _ => .int _) ha hb
def cPos (_ j : Int) : Bool := decide (0 < j)
theorem pe_vmod {a b : Expr} {fa fb : VE} {pos : Pos} (ha : PE X a (LE X.K W fa)) (hb : PE X b (LE X.K W fb)) : PE X (.BinOp a .Mod b pos) (LE X.K W (vBin (gIntC cPos fun i j => .int (i % j)) fa fb)) := pe_vop op_mod (ov_intC (fun i j h => of_decide_eq_true (p := _) (by first | exact h)) fun _ _ _ => .int _) ha hb
def cDiv (_ j : Int) : Bool := decide (0 < j ∧ j < 1073741824)
theorem cDiv_ok (i j : Int) (h : cDiv i j = true) : CDiv i j := by
  unfold cDiv at h
  have h2 := of_decide_eq_true h
  exact h2
theorem pe_vdiv {a b : Expr} {fa fb : VE} {pos : Pos} (ha : PE X a (LE X.K W fa)) (hb : PE X b (LE X.K W fb)) : PE X (.BinOp a .FloorDiv b pos) (LE X.K W (vBin (gIntC cDiv fun i j => .int (i / j)) fa fb)) := pe_vop op_fdiv (ov_intC cDiv_ok fun _ _ _ => .int _) ha hb
theorem pt_vgt {a b : Expr} {fa fb : VE} {pos : Pos} (ha : PE X a (LE X.K W fa)) (hb : PE X b (LE X.K W fb)) : PT X (.Compare a [.Gt] [b] pos) (LT X.K W (vTest (vBin (gInt fun i j => .bl (decide (j < i))) fa fb))) := pt_vcmp op_gt (ov_int fun _ _ _ => .bl _) ha hb (nobehind _ (by decide) (by decide))
theorem pt_vge {a b : Expr} {fa fb : VE} {pos : Pos} (ha : PE X a (LE X.K W fa)) (hb : PE X b (LE X.K W fb)) : PT X (.Compare a [.GtE] [b] pos) (LT X.K W (vTest (vBin (gInt fun i j => .bl (decide (j ≤ i))) fa fb))) := pt_vcmp op_ge (ov_int fun _ _ _ => .bl _) ha hb (nobehind _ (by decide) (by decide))
mutual
def toD : T → Option PyData
  | .non => some .none
  | .bl b => some (.bool b)
  | .int i => some (.int i)
  | .str x => some (.str x)
  | .lst ts => (toDs ts).map .list
  | .tup ts => (toDs ts).map .tuple
  | .seq ts => (toDs ts).map .list
  | _ => none
def toDs : List T → Option (List PyData)
  | [] => some []
  | t :: r => match toD t, toDs r with
    | some d, some ds => some (d :: ds)
    | _, _ => none
end
mutual
theorem rp_dp {F : Hp} {H : Hp} (e : Same F H) : ∀ {v : V} {t : T} {d : PyData}, Rp K F v t → toD t = some d → Dp K H v d
  | _, _, d, .non, h => by unfold toD at h; cases h; exact .non
  | _, _, d, .bl b, h => by unfold toD at h; cases h; exact .bl b
  | _, _, d, .int i, h => by unfold toD at h; cases h; exact .int i
  | _, _, d, .str x, h => by unfold toD at h; cases h; exact .str x
  | _, .lst ts, d, .lst a r, h => by
    unfold toD at h
    cases z : toDs ts with
    | none => rw [z] at h; cases h
    | some ds => rw [z] at h; cases h; exact .lst (SqL.of (e _ _ a)) (rpL_dp e r z)
  | _, .tup ts, d, .tup a r, h => by
    unfold toD at h
    cases z : toDs ts with
    | none => rw [z] at h; cases h
    | some ds => rw [z] at h; cases h; exact .tup (sqT_same e a.1) (rpL_dp e r z)
  | _, .pr ts, d, .pr a r, h => by unfold toD at h; cases h
  | _, .seq ts, d, .seq a r, h => by
    unfold toD at h
    cases z : toDs ts with
    | none => rw [z] at h; cases h
    | some ds => rw [z] at h; cases h; exact .lst (e.seq a) (rpL_dp e r z)
  | _, _, d, .ins a r, h => by unfold toD at h; cases h
  | _, _, d, .rcd a r, h => by unfold toD at h; cases h
  | _, _, d, .cst v, h => by unfold toD at h; cases h
theorem rpL_dp {F : Hp} {H : Hp} (e : Same F H) : ∀ {vs : List V} {ts : List T} {ds : List PyData}, RpL K F vs ts → toDs ts = some ds → DpAll K H vs ds
  | _, _, ds, .nil, h => by unfold toDs at h; cases h; exact .nil
  | _, t :: r, ds, .cons a q, h => by
    unfold toDs at h
    split at h
    · rename_i d ds' h1 h2
      cases h
      exact .cons (rp_dp e a h1) (rpL_dp e q h2)
    · cases h
end
def datOf (s : Sl) (m : List MO) : Option PyData := match s with
  | .val t => toD t
  | .own i => match m[i]? with
    | some (.lst ts) => (toDs ts).map .list
    | _ => none
theorem datOf_dp {F : Hp} {A : List Addr} {m : List MO} {H : Hp} {s : Sl} {x : V} {d : PyData} (o : Objs K F A m H) (r : RpS K F A x s) (e : datOf s m = some d) : Dp K H x d := by
  cases s with
  | val t => exact rp_dp o.sub r e
  | own i =>
    obtain ⟨a, ea, rfl⟩ := r
    unfold datOf at e
    simp only at e
    split at e
    · rename_i ts em
      obtain ⟨_, xs, h1, h2⟩ := o.obj i a _ ea em
      cases z : toDs ts with
      | none => rw [z] at e; cases e
      | some ds => rw [z] at e; cases e; exact .lst (SqL.of h1) (rpL_dp o.sub h2 z)
    · cases e
def gDat (f : PyData → PyData → Bool) (a b : Sl) (m : List MO) : M Sl := match datOf a m, datOf b m with
  | some d, some e => if SeqAt.shaped d = true ∧ SeqAt.shaped e = true then rM (.val (.bl (f d e))) m else none
  | _, _ => none
theorem ov_eqD : OpV K (rEqD K) (gDat PyData.eqv) := by
  intro W F A ρ m σ H x y a b Q w ra rb g
  unfold gDat at g
  split at g
  · rename_i d e h1 h2
    split at g
    · rename_i h
      exact ⟨d, e, datOf_dp w.os ra h1, datOf_dp w.os rb h2, h.1, h.2, g.now w (.bl _)⟩
    · exact none_got g
  · exact none_got g
theorem ov_neD : OpV K (rNeD K) (gDat fun d e => !PyData.eqv d e) := by
  intro W F A ρ m σ H x y a b Q w ra rb g
  unfold gDat at g
  split at g
  · rename_i d e h1 h2
    split at g
    · rename_i h
      exact ⟨d, e, datOf_dp w.os ra h1, datOf_dp w.os rb h2, h.1, h.2, g.now w (.bl _)⟩
    · exact none_got g
  · exact none_got g
theorem pt_veq {a b : Expr} {fa fb : VE} {pos : Pos} (hu : X.A.units + 64 < cLine) (ha : PE X a (LE X.K W fa)) (hb : PE X b (LE X.K W fb)) : PT X (.Compare a [.Eq] [b] pos) (LT X.K W (vTest (vBin (gDat PyData.eqv) fa fb))) := pt_vcmp (op_eqD hu) ov_eqD ha hb (nobehind _ (by decide) (by decide))
theorem pt_vne {a b : Expr} {fa fb : VE} {pos : Pos} (hu : X.A.units + 64 < cLine) (ha : PE X a (LE X.K W fa)) (hb : PE X b (LE X.K W fb)) : PT X (.Compare a [.NotEq] [b] pos) (LT X.K W (vTest (vBin (gDat fun d e => !PyData.eqv d e) fa fb))) := pt_vcmp (op_neD hu) ov_neD ha hb (nobehind _ (by decide) (by decide))
theorem pe_veq {a b : Expr} {fa fb : VE} {pos : Pos} (hu : X.A.units + 64 < cLine) (ha : PE X a (LE X.K W fa)) (hb : PE X b (LE X.K W fb)) : PE X (.Compare a [.Eq] [b] pos) (LE X.K W (vBin (gDat PyData.eqv) fa fb)) := pe_vcmp (op_eqD hu) ov_eqD ha hb (nobehind _ (by decide) (by decide))
def flatT : T → Option V
  | .non => some .non
  | .bl b => some (.bl b)
  | .int i => some (.int i)
  | .str x => some (.str x)
  | _ => none
def flatTs : List T → Option (List V)
  | [] => some []
  | t :: r => match flatT t, flatTs r with
    | some v, some vs => some (v :: vs)
    | _, _ => none
theorem flatT_rp {F : Hp} {v u : V} {t : T} (r : Rp K F v t) (e : flatT t = some u) : v = u ∧ flatV u = true := by
  cases r <;> first | (cases e; exact ⟨rfl, rfl⟩) | cases e
theorem flatTs_rp {F : Hp} : ∀ {vs us : List V} {ts : List T}, RpL K F vs ts → flatTs ts = some us → vs = us ∧ us.all flatV = true
  | _, us, _, .nil, e => by cases e; exact ⟨rfl, rfl⟩
  | _, us, t :: r, .cons a q, e => by
    unfold flatTs at e
    split at e
    · rename_i v vs h1 h2
      cases e
      obtain ⟨e1, f1⟩ := flatT_rp a h1
      obtain ⟨e2, f2⟩ := flatTs_rp q h2
      rw [e1, e2, List.all_cons, f1, f2]
      exact ⟨rfl, rfl⟩
    · cases e
def gInFlat (neg : Bool) (a b : Sl) (m : List MO) : M Sl := match a, seqOf b m with
  | .val t, some ts => match flatT t, flatTs ts with
    | some v, some vs => rM (.val (.bl (if neg then !inV v vs else inV v vs))) m
    | _, _ => none
  | _, _ => none
theorem ov_inFlat {neg : Bool} : OpV K (rIn K neg) (gInFlat neg) := by
  intro W F A ρ m σ H x y a b Q w ra rb g
  unfold gInFlat at g
  split at g
  · rename_i t ts eb
    split at g
    · rename_i v vs h1 h2
      obtain ⟨p, xs, rfl, h3, h4⟩ := seqOf_at w.os rb eb
      obtain ⟨rfl, f1⟩ := flatT_rp ra h1
      obtain ⟨rfl, f2⟩ := flatTs_rp h4 h2
      exact ⟨p, _, rfl, h3, f1, f2, g.now w (.bl _)⟩
    · exact none_got g
  · exact none_got g
end
end Vs
end
section
namespace Vs
open PySem PySem.Spec PyProof.Rows L2
variable [WW]
section
variable {K : PySem.W.Frag} {W : WX} {X : Cx}
def vgAll : List VG → List T → List (Option Sl) → Option (List (Option Sl))
  | [], [], ρ => some ρ
  | g :: gs, t :: ts, ρ => match g t ρ with
    | some ρ' => vgAll gs ts ρ'
    | none => none
  | _, _, _ => none
def vgTup (gs : List VG) : VG := fun t ρ => match t with
  | .tup ts => vgAll gs ts ρ
  | .pr ts => vgAll gs ts ρ
  | _ => none
def LGs (K : PySem.W.Frag) (L : List Nat) (gs : List VG) : TGs := fun vs σ H Q => ∃ F A ρ m ts ρ', Wd K F A ρ m σ H ∧ RpL K F vs ts ∧ vgAll gs ts ρ = some ρ' ∧ ∀ σ', Wd K F A ρ' m σ' H → Sam L σ σ' → Q σ' H
theorem Sam.app {L M : List Nat} {σ σ1 σ2 : L2.St} (a : Sam L σ σ1) (b : Sam M σ1 σ2) : Sam (L ++ M) σ σ2 := ⟨b.1.trans a.1, fun j hj => (b.2 j fun z => hj (List.mem_append_right _ z)).trans (a.2 j fun z => hj (List.mem_append_left _ z))⟩
theorem vgAll_len : ∀ {gs : List VG} {ts : List T} {ρ ρ' : List (Option Sl)}, vgAll gs ts ρ = some ρ' → ts.length = gs.length
  | [], [], _, _, _ => rfl
  | g :: gs, t :: ts, ρ, ρ', e => by
    unfold vgAll at e
    split at e
    · rw [List.length_cons, List.length_cons, vgAll_len e]
    · cases e
  | [], t :: ts, _, _, e => by cases e
  | g :: gs, [], _, _, e => by cases e
theorem PGs.imp {es : List Expr} {t t' : TGs} (h : PGs X es t) (k : ∀ vs σ H Q, t' vs σ H Q → t vs σ H Q) : PGs X es t' := ⟨fun vs us pins s σ H Q I r z => h.run vs us pins s σ H Q I r (k _ _ _ _ z)⟩
theorem pgs_vnil : PGs X [] (LGs X.K [] []) := PGs.imp pgs_nil fun vs σ H Q ⟨F, A, ρ, m, ts, ρ', w, r, e, k⟩ => by
  cases r with
  | nil => cases e; exact ⟨rfl, k _ w Sam.refl⟩
  | cons a b => cases e
theorem pgs_vcons {e : Expr} {es : List Expr} {g : VG} {gs : List VG} {L M : List Nat} (h1 : PG X e (LG X.K L g)) (h2 : PGs X es (LGs X.K M gs)) (hc : (assignEach (e :: es) X.env).map (·.2) = assign e X.env :: (assignEach es X.env).map (·.2) := by rfl) : PGs X (e :: es) (LGs X.K (L ++ M) (g :: gs)) := PGs.imp (pgs_cons h1 h2 hc) fun vs σ H Q ⟨F, A, ρ, m, ts, ρ', w, r, e, k⟩ => by
  cases r with
  | nil => cases e
  | @cons v vs t ts a b =>
    unfold vgAll at e
    split at e
    · rename_i ρ1 e1
      exact ⟨v, vs, rfl, F, A, ρ, m, t, ρ1, w, a, e1, fun σ' w' s1 => ⟨F, A, ρ1, m, ts, ρ', w', b, e, fun σ2 w2 s2 => k σ2 w2 (s1.app s2)⟩⟩
    · cases e
theorem pg_vtup {es : List Expr} {k : Nat} {pos : Pos} {gs : List VG} {L : List Nat} (hc : X.calm = true) (h : PGs X es (LGs X.K L gs)) (hn : (assignEach es X.env).length = gs.length := by rfl) (hst : (assignEach es X.env).findIdx? (·.1) = none := by rfl) : PG X (.Tuple es k pos) (LG X.K L (vgTup gs)) := PG.imp (pg_tup hc h hn hst) fun v σ H Q ⟨F, A, ρ, m, t, ρ', w, r, e, k⟩ => by
  unfold vgTup at e
  split at e
  · rename_i ts
    cases r with
    | tup hq rl => exact ⟨_, _, rfl, sqT_same w.os.sub hq.1, by rw [rl.length]; exact vgAll_len e, F, A, ρ, m, ts, ρ', w, rl, e, k⟩
  · rename_i ts
    cases r with
    | pr hq rl => exact ⟨_, _, rfl, sqT_same w.os.sub hq, by rw [rl.length]; exact vgAll_len e, F, A, ρ, m, ts, ρ', w, rl, e, k⟩
  · cases e
def vSetG (g : VG) (f : VE) : VS := fun s => bS s.ρ (f s) fun r m => match r with
  | .val t => match g t s.ρ with
    | some ρ' => some (.nx, ⟨ρ', m⟩)
    | none => none
  | _ => none
def wipeS (ρ : List (Option Sl)) : List Nat → List (Option Sl)
  | [] => ρ
  | v :: vs => (wipeS ρ vs).set v none
theorem wd_wipe {F : Hp} {A : List Addr} {ρ : List (Option Sl)} {m : List MO} {σ : L2.St} {H : Hp} (w : Wd K F A ρ m σ H) : ∀ vs, Wd K F A (wipeS ρ vs) m (wipe σ vs) H
  | [] => w
  | v :: vs => by
    have ih := wd_wipe w vs
    unfold wipeS wipe
    refine ⟨ih.os, fun i r e => ?_, by rw [List.length_set, List.length_set]; exact ih.slen⟩
    by_cases z : v = i
    · subst z
      have hl : v < (wipeS ρ vs).length := by
        have := (List.getElem?_eq_some_iff.mp e).1
        rw [List.length_set] at this
        exact this
      rw [List.getElem?_set_self hl] at e
      cases e
    · rw [List.getElem?_set_ne z] at e
      obtain ⟨v', h1, h2⟩ := ih.slot i r e
      exact ⟨v', by rw [List.getElem?_set_ne z]; exact h1, h2⟩
def vColl (g : VG) (tt : VT) (te : VE) (ρ : List (Option Sl)) : List T → List MO → List T → M (List T)
  | [], m, acc => rM acc m
  | t :: r, m, acc => match g t ρ with
    | none => none
    | some ρ1 => match tt ⟨ρ1, m⟩ with
      | some (.ok true, m1) => match te ⟨ρ1, m1⟩ with
        | some (.ok (.val u), m2) => if acc.length < SZ then vColl g tt te ρ r m2 (acc ++ [u]) else none
        | _ => none
      | some (.ok false, m1) => vColl g tt te ρ r m1 acc
      | _ => none
def vComp (vs : List Nat) (it : VI) (g : VG) (tt : VT) (te : VE) : VN := fun s => bM (it s) fun ts m => vColl g tt te (wipeS s.ρ vs) ts m []
abbrev W0 : WX := fun _ _ _ _ => False
def vYes : VT := fun s => rM true s.m
theorem lt_yes {σ : L2.St} {H : Hp} {Q : Bool → Hp → Prop} (h : LT K W vYes σ H Q) : tYes σ H Q := by
  obtain ⟨F, A, ρ, m, w, g⟩ := h
  exact g.now w rfl
theorem PTs.imp {es : List Expr} {t t' : TT} (h : PTs X es t) (k : ∀ σ H Q, t' σ H Q → t σ H Q) : PTs X es t' := ⟨fun pins s σ H Q I z => h.run pins s σ H Q I (k _ _ _ z)⟩
theorem pts_vnil : PTs X [] (LT K W vYes) := PTs.imp pts_nil fun _ _ _ => lt_yes
theorem notbl {H : Hp} {D : Addr} {o : HO} (e : H D = some o) (h : ∀ ps, o ≠ .tbl ps := by (intro _ z; cases z)) : ∀ ps, H D ≠ some (.tbl ps) := fun ps z => by
  rw [e] at z
  exact h ps (Option.some.inj z)
theorem notbl0 {H : Hp} {D : Addr} (e : H D = none) : ∀ ps, H D ≠ some (.tbl ps) := fun ps z => by
  rw [e] at z
  cases z
theorem Objs.off {F : Hp} {A : List Addr} {m : List MO} {H : Hp} {D : Addr} {o : HO} (h : Objs K F A m H) (fD : F D = none) (nD : D ∉ A) (tD : ∀ ps, H D ≠ some (.tbl ps)) : Objs K F A m (upd H D o) where
  sub := fun b u e => by
    have ne : b ≠ D := fun z => by rw [z, fD] at e; cases e
    rw [upd_ne ne]; exact h.sub b u e
  len := h.len
  nd := h.nd
  there := fun a ha => by
    obtain ⟨u, e⟩ := h.there a ha
    have ne : a ≠ D := fun z => nD (z ▸ ha)
    exact ⟨u, by rw [upd_ne ne]; exact e⟩
  obj := fun i a u h1 h2 => by
    have ne : a ≠ D := fun z => nD (z ▸ List.mem_of_getElem? h1)
    exact (h.obj i a u h1 h2).next (Same.refl _) (List.prefix_refl _) (fun o e => by rw [upd_ne ne]; exact e) id
  gho := h.gho
  tab := fun q hq => ⟨(h.tab q hq).1, (h.tab q hq).2.next (Same.refl _) (h.tab q hq).2.1 (fun o e => by
    have ne : q.1 ≠ D := fun z => by
      obtain ⟨_, ps, e2, _⟩ := (h.tab q hq).2
      exact tD ps (by rw [← z]; exact e2)
    rw [upd_ne ne]; exact e)⟩
theorem wipe_in {σ : L2.St} {j : Nat} : ∀ {vs : List Nat}, j ∈ vs → (wipe σ vs)[j]? = if j < σ.length then some none else none
  | v :: vs, h => by
    unfold wipe
    by_cases z : v = j
    · subst z
      rw [List.getElem?_set, wipe_length]
      simp
    · rw [List.getElem?_set_ne z]
      rcases List.mem_cons.mp h with q | q
      · exact absurd q.symm z
      · exact wipe_in q
theorem wipe_sam {vs L : List Nat} {σ σ' : L2.St} (h : ∀ i ∈ L, i ∈ vs) (s : Sam L (wipe σ vs) σ') : wipe σ' vs = wipe σ vs := by
  have hl : σ'.length = σ.length := s.1.trans (wipe_length σ vs)
  refine List.ext_getElem? fun j => ?_
  by_cases q : j ∈ vs
  · rw [wipe_in q, wipe_in q, hl]
  · rw [wipe_out q, wipe_out q, s.2 j fun z => q (h j z), wipe_out q]
theorem Nxt.offD {F F5 : Hp} {A A5 : List Addr} {H H5 : Hp} {D : Addr} {o : HO} (n : Nxt F A H F5 A5 H5) (hD : H D = none) : Nxt F A H F5 A5 (upd H5 D o) :=
  ⟨n.sub, n.pre, n.fresh, n.news, fun a u e ha => (n.keepT a u e ha).imp (fun ⟨ps, z, qs, q⟩ => ⟨ps, z, qs, by rw [upd_ne (ne_of_none e hD)]; exact q⟩) fun q => by rw [upd_ne (ne_of_none e hD)]; exact q⟩
theorem le_comp {vs L : List Nat} (hL : ∀ i ∈ L, i ∈ vs) {it : VI} {g : VG} {tt : VT} {te : VE} {σ : L2.St} {H : Hp} {Q : VK} (h : LN K W (vComp vs it g tt te) σ H Q) :
    tLc (LI K W it) (LG K L g) (LT K W0 tt) (LE K W0 te) vs σ H Q := by
  obtain ⟨F, A, ρ, m, w, got⟩ := h
  refine ⟨F, A, ρ, m, w, ?_⟩
  unfold vComp at got
  match e : it ⟨ρ, m⟩, got with
  | none, got => exact none_got (show Got K W σ ρ F A H _ none Q from got)
  | some (.ex C fs, m1), got =>
    obtain ⟨_, _, z, got⟩ := got
    cases z
    exact ⟨_, _, rfl, got⟩
  | some (.ok ts, m1), got =>
  have got : Got K W σ ρ F A H (relN K H) (vColl g tt te (wipeS ρ vs) ts m1 []) Q := got
  refine ⟨_, _, rfl, fun F1 A1 J H1 n1 w1 wk D hD => ?_⟩
  have hD0 : H D = none := n1.back w1.os hD
  refine ⟨fun i k G => ∃ F' A' m' acc xs, Nxt F A H F' A' G ∧ Nxt F1 A1 H1 F' A' G ∧ F' D = none ∧ D ∉ A' ∧ Wd K F' A' ρ m' σ G ∧ G D = some (.lst xs) ∧ RpL K F' xs acc ∧ acc.length ≤ SZ ∧ i ≤ ts.length ∧ k = ts.length - i ∧
      Got K W σ ρ F A H (relN K H) (vColl g tt te (wipeS ρ vs) (ts.drop i) m' acc) Q, ⟨ts.length, F1, A1, m1, [], [], n1.offD hD0, Nxt.offD Nxt.refl hD, w1.os.fnone hD, w1.os.notin hD, w1.of (Same.refl _) (List.prefix_refl _) (w1.os.keep hD), upd_same, .nil, Nat.zero_le _, Nat.zero_le _, rfl, got⟩, ?_⟩
  rintro i k G ⟨F', A', m', acc, xs, n', n1', fD, nD, w', eD, racc, hacc, hi, rfl, q'⟩
  have wk' := wk F' A' G m' n1'.sub w'.os i
  by_cases e : i < ts.length
  · have et : ts[i]? = some ts[i] := List.getElem?_eq_getElem e
    have ed : ts.drop i = ts[i] :: ts.drop (i + 1) := List.drop_eq_getElem_cons e
    obtain ⟨go, yl⟩ := wk'.1 _ et
    refine .inr ⟨go, fun G2 => ∃ F2 A2 m2 acc2 xs2, Nxt F A H F2 A2 G2 ∧ Nxt F1 A1 H1 F2 A2 G2 ∧ F2 D = none ∧ D ∉ A2 ∧ Wd K F2 A2 ρ m2 σ G2 ∧ G2 D = some (.lst xs2) ∧ RpL K F2 xs2 acc2 ∧ acc2.length ≤ SZ ∧
      Got K W σ ρ F A H (relN K H) (vColl g tt te (wipeS ρ vs) (ts.drop (i + 1)) m2 acc2) Q, fun G2 ⟨F2, A2, m2, acc2, xs2, z⟩ => ⟨ts.length - (i + 1), by omega, F2, A2, m2, acc2, xs2, z.1, z.2.1, z.2.2.1, z.2.2.2.1, z.2.2.2.2.1, z.2.2.2.2.2.1, z.2.2.2.2.2.2.1, z.2.2.2.2.2.2.2.1, e, rfl, z.2.2.2.2.2.2.2.2⟩, fun x G3 y => ?_⟩
    obtain ⟨F3, n3, o3, rx⟩ := yl x G3 y
    rw [ed] at q'
    unfold vColl at q'
    have w3 : Wd K F3 A' ρ m' σ G3 := w'.of n3.sub (List.prefix_refl _) o3
    have off : ∀ {Fa Fb : Hp} {Aa Ab : List Addr} {Ha Hb : Hp}, Nxt Fa Aa Ha Fb Ab Hb → Fa D = none → D ∉ Aa → Ha D = some (.lst xs) → Fb D = none ∧ D ∉ Ab ∧ Hb D = some (.lst xs) := fun {Fa Fb Aa Ab Ha Hb} n f a h => by
      refine ⟨?_, fun z => ?_, n.keep D _ h a⟩
      · cases q : Fb D with
        | none => rfl
        | some u =>
          rcases n.fresh D u q with y | y | y
          · rw [f] at y; cases y
          · rw [h] at y; cases y
          · exact absurd y a
      · rcases n.news D z with y | y
        · exact a y
        · rw [h] at y; cases y
    obtain ⟨fD3, nD3, eD3⟩ := off n3 fD nD eD
    match eg : g ts[i] (wipeS ρ vs), q' with
    | none, q' => simp only [eg] at q'; exact none_got q'
    | some ρ1, q' =>
      simp only [eg] at q'
      refine ⟨F3, A', _, m', _, ρ1, wd_wipe w3 vs, rx, eg, fun σ' w4 sam => ⟨wipe_sam hL sam, F3, A', ρ1, m', w4, ?_⟩⟩
      match eb : tt ⟨ρ1, m'⟩, q' with
      | none, q' => simp only [eb] at q'; exact none_got q'
      | some (.ex C fs, m2), q' => simp only [eb] at q'; exact none_got q'
      | some (.ok false, m2), q' =>
        simp only [eb] at q'
        refine ⟨_, _, rfl, fun F4 A4 b H4 n4 w5 rb => ?_⟩
        cases rb
        obtain ⟨fD4, nD4, eD4⟩ := off n4 fD3 nD3 eD3
        rw [if_neg Bool.false_ne_true]
        have n34 := n3.trans n4
        exact ⟨F4, A4, m2, acc, xs, n'.trans n34, n1'.trans n34, fD4, nD4, w'.of n34.sub n34.pre w5.os, eD4, racc.same n34.sub, hacc, q'⟩
      | some (.ok true, m2), q' =>
        simp only [eb] at q'
        refine ⟨_, _, rfl, fun F4 A4 b H4 n4 w5 rb => ?_⟩
        cases rb
        obtain ⟨fD4, nD4, eD4⟩ := off n4 fD3 nD3 eD3
        rw [if_pos rfl]
        refine ⟨F4, A4, ρ1, m2, w5, ?_⟩
        match ee : te ⟨ρ1, m2⟩, q' with
        | none, q' => simp only [ee] at q'; exact none_got q'
        | some (.ex C fs, m3), q' => simp only [ee] at q'; exact none_got q'
        | some (.ok (.own j), m3), q' => simp only [ee] at q'; exact none_got q'
        | some (.ok (.val u), m3), q' =>
          simp only [ee] at q'
          split at q'
          · rename_i hz
            refine ⟨_, _, rfl, fun F5 A5 y5 H5 n5 w6 ry => ?_⟩
            obtain ⟨fD5, nD5, eD5⟩ := off n5 fD4 nD4 eD4
            have n35 := (n3.trans n4).trans n5
            refine ⟨xs, eD5, by rw [racc.length]; exact sz_lt hz, F5, A5, m3, acc ++ [u], xs ++ [y5], (n'.trans n35).offD hD0, (n1'.trans n35).offD hD, fD5, nD5, w'.of n35.sub n35.pre (w6.os.off fD5 nD5 (notbl eD5)), upd_same, (racc.same n35.sub).append (.cons ry .nil), by rw [List.length_append]; exact hz, q'⟩
          · exact none_got q'
  · have ei : i = ts.length := by omega
    refine .inl ⟨wk'.2 (by omega), ?_⟩
    rw [List.drop_eq_nil_of_le (by omega)] at q'
    exact q'.fin n' w' ⟨⟨D, xs, rfl, fD, nD, eD, racc, hacc⟩, fun p ep => by cases ep; exact hD0⟩
theorem pe_vcomp {elt tg iter : Expr} {ifs : List Expr} {scope : Scope} (own : List (Str × Nat)) {pos : Pos} {it : VI} {L : List Nat} {g : VG} {tt : VT} {te : VE} (hL : ∀ i ∈ L, i ∈ own.map (·.2)) (hc : X.calm = true) (hN : X.N.Nodup) (hi : PI X tg iter (LI X.K W it)) (ok : BlkOk X.N X.env.scope scope own)
    (hg : ∀ (s : Shared) (H : Hp) (C : Addr) (cl : List (Str × Addr)) (fp : List Addr), PG (X.blk s H scope (compEnvC scope cl C X.env) fp) tg (LG X.K L g)) (ht : ∀ (s : Shared) (H : Hp) (C : Addr) (cl : List (Str × Addr)) (fp : List Addr), PTs (X.blk s H scope (compEnvC scope cl C X.env) fp) ifs (LT X.K W0 tt))
    (he : ∀ (s : Shared) (H : Hp) (C : Addr) (cl : List (Str × Addr)) (fp : List Addr), PE (X.blk s H scope (compEnvC scope cl C X.env) fp) elt (LE X.K W0 te)) (hs : ∀ x, foldedSetIterable iter X.env x = pure x := by intro _; rfl) :
    PE X (.ListComp elt [⟨tg, iter, ifs, 0⟩] scope pos) (LN X.K W (vComp (own.map (·.2)) it g tt te)) := PE.imp (pe_lc hc hN hi ok hg ht he hs) fun _ _ _ => le_comp hL
end
end Vs
end
section
namespace Vs
open PySem PySem.Spec PyProof.Rows L2
variable [WW]
section
variable {K : PySem.W.Frag} {W : WX} {X : Cx}
theorem pt_vinF {a b : Expr} {fa fb : VE} {pos : Pos} (hm : behindInMarks .In b = false) (ha : PE X a (LE X.K W fa)) (hb : PE X b (LE X.K W fb)) : PT X (.Compare a [.In] [b] pos) (LT X.K W (vTest (vBin (gInFlat false) fa fb))) := pt_vcmp op_in_seq ov_inFlat ha hb hm
theorem pe_vinF {a b : Expr} {fa fb : VE} {pos : Pos} (hm : behindInMarks .In b = false) (ha : PE X a (LE X.K W fa)) (hb : PE X b (LE X.K W fb)) : PE X (.Compare a [.In] [b] pos) (LE X.K W (vBin (gInFlat false) fa fb)) := pe_vcmp op_in_seq ov_inFlat ha hb hm
def gIsN (neg : Bool) (s : Sl) (m : List MO) : M Sl := match s with
  | .val .non => rM (.val (.bl (!neg))) m
  | .val (.cst _) => none
  | _ => rM (.val (.bl neg)) m
theorem isN_of {F : Hp} {A : List Addr} {x : V} {s : Sl} {neg : Bool} {m : List MO} {r : Sl} (rx : RpS K F A x s) (e : gIsN neg s m = rM r m) : r = .val (.bl (if neg then !decide (x = .non) else decide (x = .non))) := by
  unfold gIsN at e
  split at e
  · cases e
    cases rx
    cases neg <;> rfl
  · cases e
  · rename_i h1 h2
    cases e
    have ne : x ≠ .non := by
      cases s with
      | val t =>
        cases rx with
        | non => exact absurd rfl h1
        | cst => exact absurd rfl (h2 _)
        | _ => exact fun z => by cases z
      | own i => obtain ⟨a, _, rfl⟩ := rx; exact fun z => by cases z
    rw [decide_eq_false ne]
    cases neg <;> rfl
def vIsN (neg : Bool) (f : VE) : VE := fun s => bM (f s) (gIsN neg)
theorem gIsN_some (neg : Bool) (s : Sl) (m : List MO) : gIsN neg s m = none ∨ ∃ r, gIsN neg s m = rM r m := by
  unfold gIsN
  split
  · exact .inr ⟨_, rfl⟩
  · exact .inl rfl
  · exact .inr ⟨_, rfl⟩
theorem le_isN {neg : Bool} {f : VE} {σ : L2.St} {H : Hp} {Q : VK} (h : LE K W (vIsN neg f) σ H Q) : LE K W f σ H fun x H1 => Q (.bl (if neg then !decide (x = .non) else decide (x = .non))) H1 := by
  obtain ⟨F, A, ρ, m, w, got⟩ := h
  refine ⟨F, A, ρ, m, w, (Got.bind (R1 := rS K) got).mono fun x H1 ⟨F1, A1, m1, a, n1, w1, ra, q⟩ => ?_⟩
  rcases gIsN_some neg a m1 with e | ⟨r, e⟩
  · rw [e] at q; exact none_got q
  · rw [e] at q
    have e2 := isN_of ra e
    rw [e2] at q
    exact q.now w1 (.bl _)
theorem pe_visN {a : Expr} {f : VE} {pos pos' : Pos} {j : Nat} (ha : PE X a (LE K W f)) : PE X (.Compare a [.Is] [.Constant .none j pos'] pos) (LE K W (vIsN false f)) := PE.imp (pe_cmp (pc_isN ha)) fun _ _ _ h => le_isN h
theorem pt_visN {a : Expr} {f : VE} {pos pos' : Pos} {j : Nat} (ha : PE X a (LE K W f)) : PT X (.Compare a [.Is] [.Constant .none j pos'] pos) (LT K W (vTest (vIsN false f))) := PT.imp (pt_cmp (pc_isN ha)) fun σ H Q h => le_isN (lt_test h)
theorem atI_rp {F : Hp} {xs : List V} {ts : List T} {i : Int} {t : T} (r : RpL K F xs ts) (e : atI ts i = some t) : ∃ v, atI xs i = some v ∧ Rp K F v t := by
  unfold atI at e ⊢
  rw [r.length]
  cases z : ixN ts.length i with
  | none => rw [z] at e; cases e
  | some j =>
    rw [z] at e
    obtain ⟨v, h1, h2⟩ := RpL.get r (t := t) e
    exact ⟨v, h1, h2⟩
def gIx (a b : Sl) (m : List MO) : M Sl := match b with
  | .val (.int i) => match seqOf a m with
    | some ts => match atI ts i with
      | some t => rM (.val t) m
      | none => none
    | none => match a with
      | .val (.str z) => if z.length ≤ SZ then match atI z.cps.toList i with
        | some c => rM (.val (.str ⟨#[c]⟩)) m
        | none => none
        else none
      | _ => none
  | _ => none
theorem ov_ix : OpV K (rIx K) gIx := by
  intro W F A ρ m σ H x y a b Q w ra rb g
  unfold gIx at g
  split at g
  · rename_i i
    cases rb
    split at g
    · rename_i ts e
      split at g
      · rename_i t et
        obtain ⟨p, xs, rfl, h1, h2⟩ := seqOf_at w.os ra e
        obtain ⟨v, h3, h4⟩ := atI_rp h2 et
        rcases h1 with h1 | h1
        · exact .inl ⟨p, xs, i, v, rfl, rfl, h1, h3, g.now w h4⟩
        · exact .inr (.inl ⟨p, xs, i, v, rfl, rfl, h1, h3, g.now w h4⟩)
      · exact none_got g
    · split at g
      · split at g
        · rename_i hz
          split at g
          · rename_i c ec
            cases ra
            exact .inr (.inr ⟨_, i, c, rfl, rfl, sz_le hz, ec, g.now w (.str _)⟩)
          · exact none_got g
        · exact none_got g
      · exact none_got g
  · exact none_got g
theorem pe_vix {a b : Expr} {fa fb : VE} {pos : Pos} (hs : PlainIx b) (ha : PE X a (LE X.K W fa)) (hb : PE X b (LE X.K W fb)) : PE X (.Subscript a b pos) (LE X.K W (vBin gIx fa fb)) := PE.imp (pe_ix ix_seq ha hb hs) fun _ _ _ => le_bin ov_ix
abbrev VP := S → M (Option Int)
def LP (K : PySem.W.Frag) (W : WX) (f : VP) : TO := fun σ H Q => ∃ F A ρ m, Wd K F A ρ m σ H ∧ Got K W σ ρ F A H (fun _ _ _ b c => b = c) (f ⟨ρ, m⟩) Q
def vNoPart : VP := fun s => rM none s.m
def gPart (s : Sl) (m : List MO) : M (Option Int) := match s with
  | .val (.int i) => rM (some i) m
  | _ => none
def vPart (f : VE) : VP := fun s => bM (f s) gPart
theorem po_vnone : PO X none (LP K W vNoPart) := ⟨fun pins s σ H Q I ⟨F, A, ρ, m, w, g⟩ => po_none.run pins s σ H Q I (Got.now (R2 := fun _ _ _ b c => b = c) g w rfl)⟩
theorem po_vsome {e : Expr} {f : VE} (h : PE X e (LE K W f)) : PO X (some e) (LP K W (vPart f)) := ⟨fun pins s σ H Q I ⟨F, A, ρ, m, w, g⟩ => (po_some h).run pins s σ H Q I ⟨F, A, ρ, m, w, (Got.bind (R1 := rS K) g).mono fun x H1 ⟨F1, A1, m1, a, n1, w1, ra, q⟩ => by
  unfold gPart at q
  split at q
  · cases ra
    exact ⟨_, rfl, Got.now q w1 rfl⟩
  · exact none_got q⟩⟩
def cutT (xs : List T) (lo hi : Option Int) : List T := (xs.drop (HT.sIx xs.length 0 lo)).take (HT.sIx xs.length xs.length hi - HT.sIx xs.length 0 lo)
theorem cutT_le (xs : List T) (lo hi : Option Int) : (cutT xs lo hi).length ≤ xs.length := by
  unfold cutT
  rw [List.length_take, List.length_drop]
  omega
theorem cut_rp {F : Hp} {xs : List V} {ts : List T} (r : RpL K F xs ts) (lo hi : Option Int) : RpL K F (cutV xs lo hi) (cutT ts lo hi) := by
  unfold cutV cutT
  rw [r.length]
  exact (r.drop _).take _
def vSliceL (fe : VE) (fl fh : VP) : VN := fun s => bM (fe s) fun a m1 => bM (fl ⟨s.ρ, m1⟩) fun lo m2 => bM (fh ⟨s.ρ, m2⟩) fun hi m3 => match lstOf a m3 with
  | some ts => if ts.length ≤ SZ then rM (cutT ts lo hi) m3 else none
  | none => match a with
    | .val (.seq ts) => if ts.length ≤ SZ then rM (cutT ts lo hi) m3 else none
    | _ => none
theorem pe_vsliceL {e : Expr} {lo hi : Option Expr} {fe : VE} {fl fh : VP} {pos p2 : Pos} (he : PE X e (LE X.K W fe)) (hl : PO X lo (LP X.K W fl)) (hu : PO X hi (LP X.K W fh)) : PE X (.Subscript e (.Slice lo hi none p2) pos) (LN X.K W (vSliceL fe fl fh)) := PE.imp (pe_slice sl_list he hl hu) fun σ H Q ⟨F, A, ρ, m, w, g⟩ =>
  ⟨F, A, ρ, m, w, (Got.bind (R1 := rS X.K) g).mono fun x H1 ⟨F1, A1, m1, a, n1, w1, ra, g1⟩ => ⟨F1, A1, ρ, m1, w1, (Got.bind (R1 := fun _ _ _ b c => b = c) g1).mono fun l H2 ⟨F2, A2, m2, l', n2, w2, el, g2⟩ => by
    subst el
    exact ⟨F2, A2, ρ, m2, w2, (Got.bind (R1 := fun _ _ _ b c => b = c) g2).mono fun u H3 ⟨F3, A3, m3, u', n3, w3, eu, g3⟩ => by
      subst eu
      have ra3 := (ra.next n2.sub n2.pre).next n3.sub n3.pre
      have n := (n1.trans n2).trans n3
      split at g3
      · rename_i ts et
        split at g3
        · rename_i hz
          obtain ⟨p, xs, rfl, h1, h2⟩ := lstOf_at w3.os ra3 et
          exact ⟨p, xs, rfl, SqL.of h1, fun q nq => new_list n g3 w3 nq (cut_rp h2 l u) (Nat.le_trans (cutT_le _ _ _) hz)⟩
        · exact none_got g3
      · split at g3
        · split at g3
          · rename_i hz
            cases ra3 with
            | seq h1 h2 => exact ⟨_, _, rfl, w3.os.sub.seq h1, fun q nq => new_list n g3 w3 nq (cut_rp h2 l u) (Nat.le_trans (cutT_le _ _ _) hz)⟩
          · exact none_got g3
        · exact none_got g3⟩⟩⟩
def vSliceV (fe : VE) (fl fh : VP) : VE := fun s => bM (fe s) fun a m1 => bM (fl ⟨s.ρ, m1⟩) fun lo m2 => bM (fh ⟨s.ρ, m2⟩) fun hi m3 => match a with
  | .val (.tup ts) => rM (.val (.tup (cutT ts lo hi))) m3
  | .val (.str z) => if z.length ≤ SZ then rM (.val (.str (cutS z lo hi))) m3 else none
  | _ => none
theorem cut_whole {ts : List T} {lo hi : Option Int} (h : HT.sIx ts.length 0 lo = 0 ∧ HT.sIx ts.length ts.length hi = ts.length) : cutT ts lo hi = ts := by
  unfold cutT
  rw [h.1, h.2, List.drop_zero, Nat.sub_zero, List.take_length]
theorem pe_vsliceV {e : Expr} {lo hi : Option Expr} {fe : VE} {fl fh : VP} {pos p2 : Pos} (he : PE X e (LE X.K W fe)) (hl : PO X lo (LP X.K W fl)) (hu : PO X hi (LP X.K W fh)) : PE X (.Subscript e (.Slice lo hi none p2) pos) (LE X.K W (vSliceV fe fl fh)) := PE.imp (pe_slice (SlR.or sl_tupB sl_str) he hl hu) fun σ H Q ⟨F, A, ρ, m, w, g⟩ =>
  ⟨F, A, ρ, m, w, (Got.bind (R1 := rS X.K) g).mono fun x H1 ⟨F1, A1, m1, a, n1, w1, ra, g1⟩ => ⟨F1, A1, ρ, m1, w1, (Got.bind (R1 := fun _ _ _ b c => b = c) g1).mono fun l H2 ⟨F2, A2, m2, l', n2, w2, el, g2⟩ => by
    subst el
    exact ⟨F2, A2, ρ, m2, w2, (Got.bind (R1 := fun _ _ _ b c => b = c) g2).mono fun u H3 ⟨F3, A3, m3, u', n3, w3, eu, g3⟩ => by
      subst eu
      have ra3 := (ra.next n2.sub n2.pre).next n3.sub n3.pre
      split at g3
      · rename_i ts
        cases ra3 with
        | tup h1 h2 =>
          refine .inl ⟨_, _, rfl, sqT_same w3.os.sub h1.1, fun e => ?_, fun _ => g3.tup w3 (cut_rp h2 l u)⟩
          · rw [h2.length] at e
            rw [cut_whole e] at g3
            exact g3.now w3 (.tup h1 h2)
      · split at g3
        · rename_i hz
          cases ra3
          exact .inr ⟨_, rfl, sz_le hz, g3.now w3 (.str _)⟩
        · exact none_got g3
      · exact none_got g3⟩⟩⟩
end
end Vs
end
section
namespace Vs
open PySem PySem.Spec PyProof.Rows L2
variable [WW]
section
variable {K : PySem.W.Frag} {W : WX} {X : Cx}
def CallV (K : PySem.W.Frag) (r : List V → Hp → VK → Prop) (g : List Sl → List MO → M Sl) : Prop :=
  ∀ (W : WX) (F : Hp) (A : List Addr) (ρ : List (Option Sl)) (m : List MO) (σ : L2.St) (H : Hp) (xs : List V) (ss : List Sl) (Q : VK), Wd K F A ρ m σ H → RpSs K F A xs ss → Got K W σ ρ F A H (rS K) (g ss m) Q → r xs H Q
def CallVN (K : PySem.W.Frag) (r : List V → Hp → VK → Prop) (g : List Sl → List MO → M (List T)) : Prop :=
  ∀ (W : WX) (F0 F : Hp) (A0 A : List Addr) (ρ : List (Option Sl)) (m : List MO) (σ : L2.St) (H0 H : Hp) (xs : List V) (ss : List Sl) (Q : VK), Nxt F0 A0 H0 F A H → Wd K F A ρ m σ H → RpSs K F A xs ss → Got K W σ ρ F A H (relN K H0) (g ss m) Q → r xs H Q
def vB (g : List Sl → List MO → M Sl) (f : VA) : VE := fun s => bM (f s) g
def vBN (g : List Sl → List MO → M (List T)) (f : VA) : VN := fun s => bM (f s) g
theorem le_callB {r : List V → Hp → VK → Prop} {g : List Sl → List MO → M Sl} {f : VA} (hv : CallV K r g) {σ : L2.St} {H : Hp} {Q : VK} (h : LE K W (vB g f) σ H Q) : tCB r (LA K W f) σ H Q := by
  obtain ⟨F, A, ρ, m, w, got⟩ := h
  exact ⟨F, A, ρ, m, w, (Got.bind (R1 := fun F' A' _ vs ss => RpSs K F' A' vs ss) got).mono fun xs H1 ⟨F1, A1, m1, ss, n1, w1, rs, q⟩ => hv W F1 A1 ρ m1 σ H1 xs ss Q w1 rs q⟩
theorem ln_callB {r : List V → Hp → VK → Prop} {g : List Sl → List MO → M (List T)} {f : VA} (hv : CallVN K r g) {σ : L2.St} {H : Hp} {Q : VK} (h : LN K W (vBN g f) σ H Q) : tCB r (LA K W f) σ H Q := by
  obtain ⟨F, A, ρ, m, w, got⟩ := h
  exact ⟨F, A, ρ, m, w, (Got.bind (R1 := fun F' A' _ vs ss => RpSs K F' A' vs ss) got).mono fun xs H1 ⟨F1, A1, m1, ss, n1, w1, rs, q⟩ => hv W F F1 A A1 ρ m1 σ H H1 xs ss Q n1 w1 rs q⟩
section
variable {x : Str} {p pos : Pos} {e : Expr} {es : List Expr} {f : VA} {id T' : String} {r : List V → Hp → VK → Prop}
theorem pe_vcallB {g : List Sl → List MO → M Sl} (hv : CallV X.K r g) (hc : CallR X (.builtin id) r) (hg : Gl X x) (hm : X.mg x = none) (hb : bootBuiltins x = some (.builtin id)) (ha : PA X (e :: es) (LA X.K W f)) (hn : x ≠ "__name__" := by decide) (hdb : (x == ("__debug__" : Str)) = false := by decide)
    (he : starEach (e :: es) X.env = (false, eval e X.env) :: starEach es X.env := by rfl) (hpl : (backTo pos (starEach es X.env)).any (·.1) = false := by rfl) : PE X (.Call (.Name x p) (e :: es) [] pos) (LE X.K W (vB g f)) :=
  PE.imp (pe_callB hc hg hm hb ha hn hdb he hpl) fun _ _ _ => le_callB hv
theorem pe_vcallBN {g : List Sl → List MO → M (List T)} (hv : CallVN X.K r g) (hc : CallR X (.builtin id) r) (hg : Gl X x) (hm : X.mg x = none) (hb : bootBuiltins x = some (.builtin id)) (ha : PA X (e :: es) (LA X.K W f)) (hn : x ≠ "__name__" := by decide) (hdb : (x == ("__debug__" : Str)) = false := by decide)
    (he : starEach (e :: es) X.env = (false, eval e X.env) :: starEach es X.env := by rfl) (hpl : (backTo pos (starEach es X.env)).any (·.1) = false := by rfl) : PE X (.Call (.Name x p) (e :: es) [] pos) (LN X.K W (vBN g f)) :=
  PE.imp (pe_callB hc hg hm hb ha hn hdb he hpl) fun _ _ _ => ln_callB hv
theorem pe_vcallTy {g : List Sl → List MO → M Sl} (hv : CallV X.K r g) (hc : CallR X (.type T') r) (hg : Gl X x) (hm : X.mg x = none) (hb : bootBuiltins x = some (.type T')) (ha : PA X (e :: es) (LA X.K W f)) (hn : x ≠ "__name__" := by decide) (hdb : (x == ("__debug__" : Str)) = false := by decide)
    (he : starEach (e :: es) X.env = (false, eval e X.env) :: starEach es X.env := by rfl) (hpl : (backTo pos (starEach es X.env)).any (·.1) = false := by rfl) : PE X (.Call (.Name x p) (e :: es) [] pos) (LE X.K W (vB g f)) :=
  PE.imp (pe_callTy hc hg hm hb ha hn hdb he hpl) fun _ _ _ => le_callB hv
theorem pe_vcallTyN {g : List Sl → List MO → M (List T)} (hv : CallVN X.K r g) (hc : CallR X (.type T') r) (hg : Gl X x) (hm : X.mg x = none) (hb : bootBuiltins x = some (.type T')) (ha : PA X (e :: es) (LA X.K W f)) (hn : x ≠ "__name__" := by decide) (hdb : (x == ("__debug__" : Str)) = false := by decide)
    (he : starEach (e :: es) X.env = (false, eval e X.env) :: starEach es X.env := by rfl) (hpl : (backTo pos (starEach es X.env)).any (·.1) = false := by rfl) : PE X (.Call (.Name x p) (e :: es) [] pos) (LN X.K W (vBN g f)) :=
  PE.imp (pe_callTy hc hg hm hb ha hn hdb he hpl) fun _ _ _ => ln_callB hv
end
theorem rpSs1 {F : Hp} {A : List Addr} {xs : List V} {s : Sl} (r : RpSs K F A xs [s]) : ∃ x, xs = [x] ∧ RpS K F A x s := by
  cases r with
  | cons r1 r2 => cases r2; exact ⟨_, rfl, r1⟩
theorem rpSs2 {F : Hp} {A : List Addr} {xs : List V} {s s' : Sl} (r : RpSs K F A xs [s, s']) : ∃ x y, xs = [x, y] ∧ RpS K F A x s ∧ RpS K F A y s' := by
  cases r with
  | cons r1 r2 => obtain ⟨y, rfl, r3⟩ := rpSs1 r2; exact ⟨_, y, rfl, r1, r3⟩
abbrev rLen1 (K : PySem.W.Frag) : List V → Hp → VK → Prop := fun xs H Q => (∃ p ys, xs = [.ref p] ∧ (SqL K H p ys ∨ SqT K H p ys) ∧ Q (.int ys.length) H) ∨ ∃ z, xs = [.str z] ∧ z.length ≤ sizeLine ∧ Q (.int z.length) H
theorem call_len1 : CallR X (.builtin "len") (rLen1 X.K) := CallR.or call_len_seq call_len_str
def gLen : List Sl → List MO → M Sl
  | [s], m => match seqOf s m with
    | some ts => rM (.val (.int ts.length)) m
    | none => match s with
      | .val (.str z) => if z.length ≤ SZ then rM (.val (.int z.length)) m else none
      | _ => none
  | _, _ => none
theorem cv_len : CallV K (rLen1 K) gLen := by
  intro W F A ρ m σ H xs ss Q w rs g
  unfold gLen at g
  split at g
  · rename_i s
    obtain ⟨x, rfl, rx⟩ := rpSs1 rs
    split at g
    · rename_i ts e
      obtain ⟨p, ys, rfl, h1, h2⟩ := seqOf_at w.os rx e
      rw [← h2.length] at g
      exact .inl ⟨p, ys, rfl, h1, g.now w (.int _)⟩
    · split at g
      · split at g
        · rename_i hz
          cases rx
          exact .inr ⟨_, rfl, sz_le hz, g.now w (.int _)⟩
        · exact none_got g
      · exact none_got g
  · exact none_got g
abbrev rListOf (K : PySem.W.Frag) : List V → Hp → VK → Prop := fun xs H Q => ∃ p ys, xs = [.ref p] ∧ (SqL K H p ys ∨ SqT K H p ys) ∧ ∀ l, H l = none → Q (.ref l) (upd H l (.lst ys))
def gListOf : List Sl → List MO → M (List T)
  | [s], m => match seqOf s m with
    | some ts => if ts.length ≤ SZ then rM ts m else none
    | none => none
  | _, _ => none
theorem cv_list : CallVN K (rListOf K) gListOf := by
  intro W F0 F A0 A ρ m σ H0 H xs ss Q n w rs g
  unfold gListOf at g
  split at g
  · rename_i s
    obtain ⟨x, rfl, rx⟩ := rpSs1 rs
    split at g
    · rename_i ts e
      split at g
      · rename_i hz
        obtain ⟨p, ys, rfl, h1, h2⟩ := seqOf_at w.os rx e
        exact ⟨p, ys, rfl, h1, fun l nl => new_list n g w nl h2 hz⟩
      · exact none_got g
    · exact none_got g
  · exact none_got g
abbrev rTupOf (K : PySem.W.Frag) : List V → Hp → VK → Prop := rTupOfB K
def gTupOf : List Sl → List MO → M Sl
  | [s], m => match seqOf s m with
    | some ts => if ts.length ≤ SZ then rM (.val (.tup ts)) m else none
    | none => none
  | _, _ => none
theorem seqOf_at2 {F : Hp} {A : List Addr} {m : List MO} {H : Hp} {s : Sl} {x : V} {ts : List T} (o : Objs K F A m H) (r : RpS K F A x s) (e : seqOf s m = some ts) : ∃ a xs, x = .ref a ∧ (SqL K H a xs ∨ SqB K F a xs) ∧ RpL K F xs ts := by
  unfold seqOf at e
  split at e
  · rename_i us eu
    cases e
    obtain ⟨a, xs, h1, h2, h3⟩ := lstOf_at o r eu
    exact ⟨a, xs, h1, .inl (SqL.of h2), h3⟩
  · split at e
    · cases e
      cases r with
      | tup h q => exact ⟨_, _, rfl, .inr h, q⟩
    · cases e
      cases r with
      | seq h q => exact ⟨_, _, rfl, .inl (o.sub.seq h), q⟩
    · cases e
theorem cv_tup : CallV K (rTupOf K) gTupOf := by
  intro W F A ρ m σ H xs ss Q w rs g
  unfold gTupOf at g
  split at g
  · rename_i s
    obtain ⟨x, rfl, rx⟩ := rpSs1 rs
    split at g
    · rename_i ts e
      split at g
      · rename_i hz
        obtain ⟨p, ys, rfl, h1, h2⟩ := seqOf_at2 w.os rx e
        refine ⟨p, ys, rfl, h1.elim (fun h => .inl ⟨h, g.tup w h2⟩) fun h => .inr ⟨sqT_same w.os.sub h.1, g.now w (.tup h h2)⟩⟩
      · exact none_got g
    · exact none_got g
  · exact none_got g
abbrev rStrI : List V → Hp → VK → Prop := fun xs H Q => ∃ i : Int, xs = [.int i] ∧ i.natAbs.log2 < 1920 ∧ Q (.str (toString i)) H
def gStrI : List Sl → List MO → M Sl
  | [.val (.int i)], m => if i.natAbs.log2 < 1920 then rM (.val (.str (toString i))) m else none
  | _, _ => none
abbrev rAbs : List V → Hp → VK → Prop := fun xs H Q => ∃ i : Int, xs = [.int i] ∧ Q (.int (if i < 0 then -i else i)) H
def gAbs : List Sl → List MO → M Sl
  | [.val (.int i)], m => rM (.val (.int (if i < 0 then -i else i))) m
  | _, _ => none
theorem cv_abs : CallV K rAbs gAbs := by
  intro W F A ρ m σ H xs ss Q w rs g
  unfold gAbs at g
  split at g
  · obtain ⟨x, rfl, rx⟩ := rpSs1 rs
    cases rx
    exact ⟨_, rfl, g.now w (.int _)⟩
  · exact none_got g
abbrev rInt1 : List V → Hp → VK → Prop := fun xs H Q => (∃ i, xs = [.int i] ∧ Q (.int i) H) ∨ ∃ k, xs = [.bl k] ∧ Q (.int (if k then 1 else 0)) H
def gInt1 : List Sl → List MO → M Sl
  | [.val (.int i)], m => rM (.val (.int i)) m
  | [.val (.bl k)], m => rM (.val (.int (if k then 1 else 0))) m
  | _, _ => none
theorem cv_int : CallV K rInt1 gInt1 := by
  intro W F A ρ m σ H xs ss Q w rs g
  unfold gInt1 at g
  split at g
  · obtain ⟨x, rfl, rx⟩ := rpSs1 rs
    cases rx
    exact .inl ⟨_, rfl, g.now w (.int _)⟩
  · obtain ⟨x, rfl, rx⟩ := rpSs1 rs
    cases rx
    exact .inr ⟨_, rfl, g.now w (.int _)⟩
  · exact none_got g
abbrev rMM (f : Int → Int → Int) : List V → Hp → VK → Prop := fun xs H Q => ∃ i j, xs = [.int i, .int j] ∧ Q (.int (f i j)) H
def gMM (f : Int → Int → Int) : List Sl → List MO → M Sl
  | [.val (.int i), .val (.int j)], m => rM (.val (.int (f i j))) m
  | _, _ => none
theorem cv_mm {f : Int → Int → Int} : CallV K (rMM f) (gMM f) := by
  intro W F A ρ m σ H xs ss Q w rs g
  unfold gMM at g
  split at g
  · obtain ⟨x, y, rfl, rx, ry⟩ := rpSs2 rs
    cases rx
    cases ry
    exact ⟨_, _, rfl, g.now w (.int _)⟩
  · exact none_got g
theorem call_max2' (hc : X.calm = true) : CallR X (.builtin "max") (rMM fun i j => if j > i then j else i) := call_max2 hc
theorem call_min2' (hc : X.calm = true) : CallR X (.builtin "min") (rMM fun i j => if j < i then j else i) := call_min2 hc
def lsqOf (s : Sl) (m : List MO) : Option (List T) := match lstOf s m with
  | some ts => some ts
  | none => match s with
    | .val (.seq ts) => some ts
    | _ => none
theorem lsqOf_at {F : Hp} {A : List Addr} {m : List MO} {H : Hp} {s : Sl} {x : V} {ts : List T} (o : Objs K F A m H) (r : RpS K F A x s) (e : lsqOf s m = some ts) : ∃ a xs, x = .ref a ∧ SqL K H a xs ∧ RpL K F xs ts := by
  unfold lsqOf at e
  split at e
  · rename_i us eu
    cases e
    obtain ⟨a, xs, h1, h2, h3⟩ := lstOf_at o r eu
    exact ⟨a, xs, h1, SqL.of h2, h3⟩
  · split at e
    · cases e
      cases r with
      | seq h q => exact ⟨_, _, rfl, o.sub.seq h, q⟩
    · cases e
def intsOf : List T → Option (List Int)
  | [] => some []
  | .int i :: r => (intsOf r).map (i :: ·)
  | _ => none
theorem intsOf_rp {F : Hp} : ∀ {ts : List T} {vs : List V} {ns : List Int}, RpL K F vs ts → intsOf ts = some ns → vs = ns.map V.int
  | [], _, ns, .nil, e => by cases e; rfl
  | t :: r, _, ns, .cons a q, e => by
    cases t with
    | int i =>
      unfold intsOf at e
      cases z : intsOf r with
      | none => rw [z] at e; cases e
      | some ms => rw [z] at e; cases e; cases a; rw [intsOf_rp q z, List.map_cons]
    | _ => cases e
theorem rp_ints {F : Hp} : ∀ {ns : List Int}, RpL K F (ns.map V.int) (ns.map T.int)
  | [] => .nil
  | n :: r => .cons (.int n) rp_ints
def strsOf : List T → Option (List Str)
  | [] => some []
  | .str i :: r => (strsOf r).map (i :: ·)
  | _ => none
theorem strsOf_rp {F : Hp} : ∀ {ts : List T} {vs : List V} {ns : List Str}, RpL K F vs ts → strsOf ts = some ns → vs = ns.map V.str
  | [], _, ns, .nil, e => by cases e; rfl
  | t :: r, _, ns, .cons a q, e => by
    cases t with
    | str i =>
      unfold strsOf at e
      cases z : strsOf r with
      | none => rw [z] at e; cases e
      | some ms => rw [z] at e; cases e; cases a; rw [strsOf_rp q z, List.map_cons]
    | _ => cases e
theorem rp_strs {F : Hp} : ∀ {ns : List Str}, RpL K F (ns.map V.str) (ns.map T.str)
  | [] => .nil
  | n :: r => .cons (.str n) rp_strs
def blsOf : List T → Option (List Bool)
  | [] => some []
  | .bl i :: r => (blsOf r).map (i :: ·)
  | _ => none
theorem blsOf_rp {F : Hp} : ∀ {ts : List T} {vs : List V} {ns : List Bool}, RpL K F vs ts → blsOf ts = some ns → vs = ns.map V.bl
  | [], _, ns, .nil, e => by cases e; rfl
  | t :: r, _, ns, .cons a q, e => by
    cases t with
    | bl i =>
      unfold blsOf at e
      cases z : blsOf r with
      | none => rw [z] at e; cases e
      | some ms => rw [z] at e; cases e; cases a; rw [blsOf_rp q z, List.map_cons]
    | _ => cases e
theorem bind_some {α β : Type} {x : Option α} {f : α → Option β} {b : β} (h : x.bind f = some b) : ∃ a, x = some a ∧ f a = some b := by
  cases x with
  | none => cases h
  | some a => exact ⟨a, rfl, h⟩
def gBools (f : List Bool → Bool) : List Sl → List MO → M Sl
  | [s], m => match (lsqOf s m).bind blsOf with
    | some ns => rM (.val (.bl (f ns))) m
    | none => none
  | _, _ => none
theorem cv_all : CallV K (rAll K) (gBools (·.all id)) := by
  intro W F A ρ m σ H xs ss Q w rs g
  unfold gBools at g
  split at g
  · split at g
    · rename_i ns e
      obtain ⟨ts, e1, e2⟩ := bind_some e
      obtain ⟨x, rfl, rx⟩ := rpSs1 rs
      obtain ⟨a, ys, rfl, h1, h2⟩ := lsqOf_at w.os rx e1
      obtain rfl := blsOf_rp h2 e2
      exact ⟨a, ns, rfl, h1, g.now w (.bl _)⟩
    · exact none_got g
  · exact none_got g
def insI (x : Int) : List Int → List Int
  | [] => [x]
  | y :: r => if x ≤ y then x :: y :: r else y :: insI x r
def sortI : List Int → List Int
  | [] => []
  | x :: r => insI x (sortI r)
theorem insI_perm (x : Int) : ∀ l, (insI x l).Perm (x :: l)
  | [] => .refl _
  | y :: r => by
    unfold insI
    split
    · exact .refl _
    · exact ((insI_perm x r).cons y).trans (.swap x y r)
theorem sortI_perm : ∀ l, (sortI l).Perm l
  | [] => .refl _
  | x :: r => (insI_perm x _).trans ((sortI_perm r).cons x)
theorem insI_sorted (x : Int) : ∀ l, l.Pairwise (· ≤ ·) → (insI x l).Pairwise (· ≤ ·)
  | [], _ => List.pairwise_singleton ..
  | y :: r, h => by
    unfold insI
    obtain ⟨h1, h2⟩ := List.pairwise_cons.mp h
    split
    · rename_i e
      refine List.pairwise_cons.mpr ⟨fun z hz => ?_, h⟩
      rcases List.mem_cons.mp hz with hz | hz
      · omega
      · have := h1 z hz; omega
    · rename_i e
      refine List.pairwise_cons.mpr ⟨fun z hz => ?_, insI_sorted x r h2⟩
      rcases List.mem_cons.mp ((insI_perm x r).mem_iff.mp hz) with hz | hz
      · omega
      · exact h1 z hz
theorem sortI_sorted : ∀ l, (sortI l).Pairwise (· ≤ ·)
  | [] => .nil
  | x :: r => insI_sorted x _ (sortI_sorted r)
theorem sorted_uniq : ∀ {a b : List Int}, a.Perm b → a.Pairwise (· ≤ ·) → b.Pairwise (· ≤ ·) → a = b
  | [], b, p, _, _ => (List.nil_perm.mp p).symm
  | x :: a, [], p, _, _ => absurd (List.perm_nil.mp p) (by simp)
  | x :: a, y :: b, p, ha, hb => by
    obtain ⟨a1, a2⟩ := List.pairwise_cons.mp ha
    obtain ⟨b1, b2⟩ := List.pairwise_cons.mp hb
    have hx : x ∈ y :: b := p.mem_iff.mp (List.mem_cons_self ..)
    have hy : y ∈ x :: a := p.mem_iff.mpr (List.mem_cons_self ..)
    have e : x = y := by
      rcases List.mem_cons.mp hx with z | z
      · exact z
      · rcases List.mem_cons.mp hy with z' | z'
        · exact z'.symm
        · have := b1 x z; have := a1 y z'; omega
    subst e
    rw [sorted_uniq ((List.perm_cons x).mp p) a2 b2]
end
end Vs
end
section
namespace Vs
open PySem PySem.Spec PyProof.Rows L2
variable [WW]
section
variable {K : PySem.W.Frag} {W : WX} {X : Cx}
theorem RpL.dropLast {F : Hp} {xs : List V} {ts : List T} (r : RpL K F xs ts) : RpL K F xs.dropLast ts.dropLast := by
  rw [List.dropLast_eq_take, List.dropLast_eq_take, r.length]; exact r.take _
theorem RpL.eraseIdx {F : Hp} : ∀ {xs : List V} {ts : List T} (i : Nat), RpL K F xs ts → RpL K F (xs.eraseIdx i) (ts.eraseIdx i)
  | _, _, _, .nil => .nil
  | _, _, 0, .cons a r => r
  | _, _, i + 1, .cons a r => .cons a (RpL.eraseIdx i r)
def vMet0 (g : Sl → List Sl → List MO → M Sl) (fo : VE) : VE := fun s => bM (fo s) fun o m1 => if isLst o m1 = true then g o [] m1 else none
theorem le_met0 {r : V → List V → Hp → VK → Prop} {g : Sl → List Sl → List MO → M Sl} {fo : VE} (hv : MetV K r g) {σ : L2.St} {H : Hp} {Q : VK} (h : LE K W (vMet0 g fo) σ H Q) : tBM0 K "list" r (LE K W fo) σ H Q := by
  obtain ⟨F, A, ρ, m, w, got⟩ := h
  refine ⟨F, A, ρ, m, w, (Got.bind (R1 := rS K) got).mono fun x H1 ⟨F1, A1, m1, o, n1, w1, ro, q⟩ => ?_⟩
  by_cases e : isLst o m1 = true
  · rw [if_pos e] at q
    obtain ⟨i, a, ts, xs, rfl, rfl, ea, em, fa', eh, rl⟩ := isLst_at w1.os ro e
    exact ⟨.inl ⟨rfl, xs, SqL.of eh⟩, hv W F1 A1 ρ m1 σ H1 _ [] _ [] Q w1 (show RpS K F1 A1 _ (.own i) from ⟨a, ea, rfl⟩) .nil q⟩
  · rw [if_neg e] at q; exact none_got q
def gPop (o : Sl) (ss : List Sl) (m : List MO) : M Sl := match o, ss with
  | .own i, [] => match m[i]? with
    | some (.lst ts) => match ts[ts.length - 1]? with
      | some t => rM (.val t) (m.set i (.lst ts.dropLast))
      | none => none
    | _ => none
  | _, _ => none
theorem mv_pop : MetV K rPop gPop := by
  intro W F A ρ m σ H x xs o ss Q w ro rs g
  unfold gPop at g
  split at g
  · rename_i i
    split at g
    · rename_i ts em
      split at g
      · rename_i t et
        obtain ⟨a, ea, rfl⟩ := ro
        obtain ⟨fa, ys, eh, rl⟩ := w.os.obj i a _ ea em
        cases rs
        obtain ⟨v, ev, rv⟩ := rl.get et
        refine ⟨a, ys, v, rfl, rfl, eh, by rw [rl.length]; exact ev, ?_⟩
        exact g.fin (Nxt.write (List.mem_of_getElem? ea)) (w.of (Same.refl _) (List.prefix_refl _) (w.os.write ea fa ⟨fa, _, upd_same, rl.dropLast⟩)) (show RpS K F A v (.val t) from rv)
      · exact none_got g
    · exact none_got g
  · exact none_got g
def gPopAt (o : Sl) (ss : List Sl) (m : List MO) : M Sl := match o, ss with
  | .own i, [.val (.int k)] => match m[i]? with
    | some (.lst ts) => if ts.length ≤ SZ then match ixN ts.length k with
      | some j => match ts[j]? with
        | some t => rM (.val t) (m.set i (.lst (ts.eraseIdx j)))
        | none => none
      | none => none
      else none
    | _ => none
  | _, _ => none
theorem sz63 {n : Nat} (h : n ≤ SZ) : (n : Int) < 2 ^ 63 := by
  have h1 : n ≤ 1000000 := h
  omega
theorem mv_popAt : MetV K rPopAt gPopAt := by
  intro W F A ρ m σ H x xs o ss Q w ro rs g
  unfold gPopAt at g
  split at g
  · rename_i i k
    split at g
    · rename_i ts em
      split at g
      · rename_i hz
        split at g
        · rename_i j ej
          split at g
          · rename_i t et
            obtain ⟨a, ea, rfl⟩ := ro
            obtain ⟨fa, ys, eh, rl⟩ := w.os.obj i a _ ea em
            obtain ⟨y, rfl, ry⟩ := rpSs1 rs
            cases ry
            obtain ⟨v, ev, rv⟩ := rl.get et
            obtain ⟨h1, h2, h3, h4⟩ := ixN_seq ej
            have h63 := sz63 hz
            refine ⟨a, ys, k, j, v, rfl, rfl, eh, by omega, by omega, by rw [rl.length]; exact h1, ev, ?_⟩
            exact g.fin (Nxt.write (List.mem_of_getElem? ea)) (w.of (Same.refl _) (List.prefix_refl _) (w.os.write ea fa ⟨fa, _, upd_same, rl.eraseIdx j⟩)) (show RpS K F A v (.val t) from rv)
          · exact none_got g
        · exact none_got g
      · exact none_got g
    · exact none_got g
  · exact none_got g
def gExtend (o : Sl) (ss : List Sl) (m : List MO) : M Sl := match o, ss with
  | .own i, [s] => match m[i]?, lstOf s m with
    | some (.lst ts), some us => if ts.length + us.length ≤ SZ then rM (.val .non) (m.set i (.lst (ts ++ us))) else none
    | _, _ => none
  | _, _ => none
theorem mv_extend : MetV K rExtend gExtend := by
  intro W F A ρ m σ H x xs o ss Q w ro rs g
  unfold gExtend at g
  split at g
  · rename_i i s
    split at g
    · rename_i ts us em eu
      split at g
      · rename_i hz
        obtain ⟨a, ea, rfl⟩ := ro
        obtain ⟨fa, ys, eh, rl⟩ := w.os.obj i a _ ea em
        obtain ⟨y, rfl, ry⟩ := rpSs1 rs
        obtain ⟨b, zs, rfl, eb, rb⟩ := lstOf_at w.os ry eu
        refine ⟨a, b, ys, zs, rfl, rfl, eh, eb, by rw [rl.length, rb.length]; exact sz_le hz, ?_⟩
        exact g.fin (Nxt.write (List.mem_of_getElem? ea)) (w.of (Same.refl _) (List.prefix_refl _) (w.os.write ea fa ⟨fa, _, upd_same, rl.append rb⟩)) (show RpS K F A .non (.val .non) from .non)
      · exact none_got g
    · exact none_got g
  · exact none_got g
section
variable {o e : Expr} {fo : VE} {fa : VA} {apos cpos : Pos}
theorem pe_vpop (ho : PE X o (LE X.K W fo)) (hbase : attributeBase o "pop" X.env (eval o X.env) = eval o X.env := by rfl) (hline : (apos.endLine == cpos.line) = true := by rfl) : PE X (.Call (.Attribute o "pop" apos) [] [] cpos) (LE X.K W (vMet0 gPop fo)) :=
  PE.imp (pe_bm0 PySem.F.plainAttrs_list PySem.F.slot_list_pop PySem.F.type_list_pop mt_pop ho hbase hline) fun _ _ _ => le_met0 mv_pop
theorem pe_vpopAt (ho : PE X o (LE X.K W fo)) (ha : PA X [e] (LA X.K W fa)) (hbase : attributeBase o "pop" X.env (eval o X.env) = eval o X.env := by rfl)
    (hfew : ((backTo cpos (starEach (e :: []) X.env)).all (fun x => !x.1) && (backToKw cpos (keywordEach [] X.env)).all (fun x => x.1.isSome) && decide ((e :: []).length + ([] : List Keyword).length + (if ([] : List Keyword).isEmpty then 0 else 1) < 30)) = true := by rfl)
    (hline : (apos.endLine == cpos.line) = true := by rfl) (hs : starEach (e :: []) X.env = (false, eval e X.env) :: starEach [] X.env := by rfl) (hplain : (backTo cpos (starEach [] X.env)).any (·.1) = false := by rfl) :
    PE X (.Call (.Attribute o "pop" apos) [e] [] cpos) (LE X.K W (vMet gPopAt fo fa)) := PE.imp (pe_bm PySem.F.plainAttrs_list PySem.F.slot_list_pop PySem.F.type_list_pop mt_popAt ho ha hbase hfew hline hs hplain) fun _ _ _ => le_met mv_popAt
theorem pe_vextend (ho : PE X o (LE X.K W fo)) (ha : PA X [e] (LA X.K W fa)) (hbase : attributeBase o "extend" X.env (eval o X.env) = eval o X.env := by rfl)
    (hfew : ((backTo cpos (starEach (e :: []) X.env)).all (fun x => !x.1) && (backToKw cpos (keywordEach [] X.env)).all (fun x => x.1.isSome) && decide ((e :: []).length + ([] : List Keyword).length + (if ([] : List Keyword).isEmpty then 0 else 1) < 30)) = true := by rfl)
    (hline : (apos.endLine == cpos.line) = true := by rfl) (hs : starEach (e :: []) X.env = (false, eval e X.env) :: starEach [] X.env := by rfl) (hplain : (backTo cpos (starEach [] X.env)).any (·.1) = false := by rfl) :
    PE X (.Call (.Attribute o "extend" apos) [e] [] cpos) (LE X.K W (vMet gExtend fo fa)) := PE.imp (pe_bm PySem.F.plainAttrs_list PySem.F.slot_list_extend PySem.F.type_list_extend mt_extend ho ha hbase hfew hline hs hplain) fun _ _ _ => le_met mv_extend
end
theorem valV_kvs {z : Str} : ∀ (vs : List (Str × V)), valV (kvs vs) (.inr z : Key) = vs.lookup z
  | [] => rfl
  | (y, v) :: r => by
    have ih := valV_kvs (z := z) r
    unfold valV at ih ⊢
    show (List.find? _ ((Sum.inr y, v) :: kvs r)).map _ = _
    rw [List.find?_cons, List.lookup_cons]
    by_cases e : y = z
    · subst e
      simp
    · have e1 : decide ((Sum.inr y : Key) = Sum.inr z) = false := decide_eq_false (fun q => e (Sum.inr.inj q))
      have e2 : (z == y) = false := by rw [beq_eq_false_iff_ne]; exact fun q => e q.symm
      rw [e1, e2]
      exact ih
theorem RpG.lookup {F : Hp} {A : List Addr} {z : Str} : ∀ {vs : List (Str × V)} {fs : List (Str × Sl)} {s : Sl}, RpG K F A vs fs → fs.lookup z = some s → ∃ v, vs.lookup z = some v ∧ RpS K F A v s
  | _, _, s, .nil, e => by cases e
  | _, _, s, .cons (x := y) h r, e => by
    rw [List.lookup_cons] at e ⊢
    cases q : z == y with
    | true => rw [q] at e; cases e; exact ⟨_, rfl, h⟩
    | false => rw [q] at e; exact RpG.lookup r e
def gRd (a b : Sl) (m : List MO) : M Sl := match a, b with
  | .own i, .val (.str z) => match m[i]? with
    | some (.rcd fs) => match fs.lookup z with
      | some s => rM s m
      | none => none
    | _ => none
  | .val (.rcd fs), .val (.str z) => match fs.lookup z with
    | some t => rM (.val t) m
    | none => none
  | _, _ => none
abbrev rRd : R2 := fun x y H Q => ∃ a v, x = .ref a ∧ DGet H a y (some v) ∧ Q v H
theorem ov_rd : OpV K rRd gRd := by
  intro W F A ρ m σ H x y a b Q w ra rb g
  unfold gRd at g
  split at g
  · rename_i i z
    split at g
    · rename_i fs em
      split at g
      · rename_i s es
        obtain ⟨ad, ea, rfl⟩ := ra
        obtain ⟨fa, vs, eh, rg⟩ := w.os.obj i ad _ ea em
        cases rb
        obtain ⟨v, ev, rv⟩ := rg.lookup es
        refine ⟨ad, v, rfl, ?_, g.now w rv⟩
        rw [← ev, ← valV_kvs]
        exact DGet.k (k := Sum.inr z) eh
      · exact none_got g
    · exact none_got g
  · rename_i fs z
    split at g
    · rename_i t et
      cases rb
      cases (show Rp K F x (.rcd fs) from ra) with
      | @rcd ad vs fs h r =>
        obtain ⟨v, ev, rv⟩ := r.lookup et
        refine ⟨ad, v, rfl, ?_, g.now w (show RpS K F A v (.val t) from rv)⟩
        rw [← ev, ← valV_kvs]
        exact DGet.k (k := Sum.inr z) (w.os.sub _ _ h)
    · exact none_got g
  · exact none_got g
theorem pe_vrd {o i : Expr} {fa fb : VE} {pos : Pos} (hu : X.A.units + 1 < cLine) (ho : PE X o (LE X.K W fa)) (hi : PE X i (LE X.K W fb)) (hs : NoSl i) : PE X (.Subscript o i pos) (LE X.K W (vBin gRd fa fb)) := PE.imp (pe_dget hu ho hi hs) fun σ H Q h => le_bin (r := rRd) ov_rd h
def putL {α : Type} (fs : List (Str × α)) (z : Str) (s : α) : List (Str × α) := if (fs.any fun kv => decide (kv.1 = z)) = true then fs.map (fun kv => if kv.1 = z then (kv.1, s) else kv) else fs ++ [(z, s)]
theorem any_kvs {z : Str} : ∀ (vs : List (Str × V)), ((kvs vs).any fun kv => decide (kv.1 = (.inr z : Key))) = vs.any fun kv => decide (kv.1 = z)
  | [] => rfl
  | (y, v) :: r => by
    show ((Sum.inr y, v) :: kvs r).any _ = _
    rw [List.any_cons, List.any_cons, any_kvs r]
    congr 1
    exact decide_eq_decide.mpr ⟨fun q => Sum.inr.inj q, fun q => congrArg Sum.inr q⟩
theorem map_kvs {z : Str} {s : V} : ∀ (vs : List (Str × V)), (kvs vs).map (fun kv => if kv.1 = (.inr z : Key) then (kv.1, s) else kv) = kvs (vs.map fun kv => if kv.1 = z then (kv.1, s) else kv)
  | [] => rfl
  | (y, v) :: r => by
    show ((Sum.inr y, v) :: kvs r).map _ = kvs (((y, v) :: r).map _)
    rw [List.map_cons, List.map_cons, map_kvs r]
    show _ = (Sum.inr _, _) :: kvs _
    by_cases e : y = z
    · subst e; simp
    · have e1 : ¬ (Sum.inr y : Key) = Sum.inr z := fun q => e (Sum.inr.inj q)
      simp only [if_neg e, if_neg e1]
theorem putK_kvs {z : Str} {s : V} (vs : List (Str × V)) : putK (kvs vs) (.inr z : Key) s = kvs (putL vs z s) := by
  unfold putK putL
  rw [any_kvs]
  by_cases e : (vs.any fun kv => decide (kv.1 = z)) = true
  · rw [if_pos e, if_pos e, map_kvs]
  · rw [if_neg e, if_neg e]
    unfold kvs
    rw [List.map_append]
    rfl
theorem RpG.any {F : Hp} {A : List Addr} {z : Str} : ∀ {vs : List (Str × V)} {fs : List (Str × Sl)}, RpG K F A vs fs → (vs.any fun kv => decide (kv.1 = z)) = fs.any fun kv => decide (kv.1 = z)
  | _, _, .nil => rfl
  | _, _, .cons h r => by rw [List.any_cons, List.any_cons, RpG.any r]
theorem RpG.mapPut {F : Hp} {A : List Addr} {z : Str} {v : V} {s : Sl} (rv : RpS K F A v s) : ∀ {vs : List (Str × V)} {fs : List (Str × Sl)}, RpG K F A vs fs → RpG K F A (vs.map fun kv => if kv.1 = z then (kv.1, v) else kv) (fs.map fun kv => if kv.1 = z then (kv.1, s) else kv)
  | _, _, .nil => .nil
  | _, _, .cons (x := y) h r => by
    rw [List.map_cons, List.map_cons]
    by_cases e : y = z
    · rw [if_pos e, if_pos e]; exact .cons rv (RpG.mapPut rv r)
    · rw [if_neg e, if_neg e]; exact .cons h (RpG.mapPut rv r)
theorem RpG.app1 {F : Hp} {A : List Addr} {z : Str} {v : V} {s : Sl} (rv : RpS K F A v s) : ∀ {vs : List (Str × V)} {fs : List (Str × Sl)}, RpG K F A vs fs → RpG K F A (vs ++ [(z, v)]) (fs ++ [(z, s)])
  | _, _, .nil => .cons rv .nil
  | _, _, .cons h r => .cons h (RpG.app1 rv r)
theorem RpG.put {F : Hp} {A : List Addr} {z : Str} {v : V} {s : Sl} {vs : List (Str × V)} {fs : List (Str × Sl)} (rv : RpS K F A v s) (r : RpG K F A vs fs) : RpG K F A (putL vs z v) (putL fs z s) := by
  unfold putL
  rw [r.any]
  by_cases e : (fs.any fun kv => decide (kv.1 = z)) = true
  · rw [if_pos e, if_pos e]; exact r.mapPut rv
  · rw [if_neg e, if_neg e]; exact r.app1 rv
theorem RpG.length {F : Hp} {A : List Addr} : ∀ {vs : List (Str × V)} {fs : List (Str × Sl)}, RpG K F A vs fs → vs.length = fs.length
  | _, _, .nil => rfl
  | _, _, .cons _ r => by rw [List.length_cons, List.length_cons, RpG.length r]
def gPut (ρ : List (Option Sl)) (v d k : Sl) (m : List MO) : R := match d, k with
  | .own i, .val (.str z) => match m[i]? with
    | some (.rcd fs) => if fs.length < SZ then some (.nx, ⟨ρ, m.set i (.rcd (putL fs z v))⟩) else none
    | _ => none
  | _, _ => none
def vPut (fd fk fv : VE) : VS := fun s => bS s.ρ (fv s) fun v m1 => bS s.ρ (fd ⟨s.ρ, m1⟩) fun d m2 => bS s.ρ (fk ⟨s.ρ, m2⟩) fun k m3 => gPut s.ρ v d k m3
theorem none_ran {F : Hp} {A : List Addr} {H : Hp} {D : Ends} {P : Prop} (h : Ran K W F A H D none) : P := by
  obtain ⟨_, _, z, _⟩ := h; cases z
theorem gPut_go {F : Hp} {A : List Addr} {ρ : List (Option Sl)} {m : List MO} {σ : L2.St} {H : Hp} {D : Ends} {v d k : Sl} {x y z : V} (w : Wd K F A ρ m σ H) (rv : RpS K F A x v) (rd : RpS K F A y d) (rk : RpS K F A z k) (q : Ran K W F A H D (gPut ρ v d k m)) :
    ∃ a H4, y = .ref a ∧ DPut H a z x H4 ∧ D.nx σ H4 := by
  unfold gPut at q
  split at q
  · rename_i j t
    split at q
    · rename_i fs em
      split at q
      · rename_i hz
        obtain ⟨ad, ea, rfl⟩ := rd
        obtain ⟨fa, vs, eh, rg⟩ := w.os.obj j ad _ ea em
        cases rk
        have hl : (kvs vs).length < sizeLine := by unfold kvs; rw [List.length_map, rg.length]; exact sz_lt hz
        refine ⟨ad, _, rfl, DPut.k (k := Sum.inr t) eh hl, ?_⟩
        rw [putK_kvs]
        have wr := w.os.write ea fa (u := .dK (kvs (putL vs t x))) (o := .rcd (putL fs t v)) ⟨fa, _, upd_same, rg.put rv⟩
        exact (q.later (Nxt.write (List.mem_of_getElem? ea))).nx (w.of (Same.refl _) (List.prefix_refl _) wr)
      · exact none_ran q
    · exact none_ran q
  · exact none_ran q
theorem ps_vput {o i value : Expr} {fd fk fv : VE} {pos pos' : Pos} (hu : X.A.units + 1 < cLine) (ho : PE X o (LE X.K W fd)) (hi : PE X i (LE X.K W fk)) (hv : PE X value (LE X.K W fv)) (hs : swapsWith value (some (.Subscript o i pos')) pos.line X.env = pure false := by rfl) :
    PS X (.Assign [.Subscript o i pos'] value pos) (LS X.K W (vPut fd fk fv)) := PS.imp (ps_dput hu ho hi hv hs) fun D σ H ⟨F, A, ρ, m, w, r⟩ =>
  ⟨F, A, ρ, m, w, (Ran.bS (rS X.K) r).mono fun x H1 ⟨F1, A1, m1, v, n1, w1, rv, q1⟩ => ⟨F1, A1, ρ, m1, w1, (Ran.bS (rS X.K) q1).mono fun y H2 ⟨F2, A2, m2, d, n2, w2, rd, q2⟩ => ⟨F2, A2, ρ, m2, w2, (Ran.bS (rS X.K) q2).mono fun z H3 ⟨F3, A3, m3, k, n3, w3, rk, q3⟩ =>
    gPut_go w3 (rv.next (n2.sub.trans n3.sub) (List.IsPrefix.trans n2.pre n3.pre)) (rd.next n3.sub n3.pre) rk q3⟩⟩⟩
def vRcd : List (Str × VE) → S → M (List (Str × Sl))
  | [], s => rM [] s.m
  | (x, f) :: r, s => bM (f s) fun v m1 => bM (vRcd r ⟨s.ρ, m1⟩) fun vs m2 => rM ((x, v) :: vs) m2
def distinct : List Str → Bool
  | [] => true
  | x :: r => !r.contains x && distinct r
def gDisp (fs : List (Str × Sl)) (m : List MO) : M Sl := if distinct (fs.map (·.1)) = true ∧ fs.length ≤ 15 then rM (.own m.length) (m ++ [.rcd fs]) else none
def vDisp (l : List (Str × VE)) : VE := fun s => bM (vRcd l s) gDisp
abbrev relD (K : PySem.W.Frag) : Hp → List Addr → Hp → List (V × V) → List (Str × Sl) → Prop := fun F A _ ps fs => ∃ vs, ps = vs.map (fun q => (V.str q.1, q.2)) ∧ RpG K F A vs fs
theorem tp_rcd : ∀ (l : List (Str × VE)) {σ : L2.St} {H : Hp} {Q : List (V × V) → Hp → Prop} {F : Hp} {A : List Addr} {ρ : List (Option Sl)} {m : List MO}, Wd K F A ρ m σ H → Got K W σ ρ F A H (relD K) (vRcd l ⟨ρ, m⟩) Q → tPairs (l.map fun p => (tC (.str p.1), LE K W p.2)) σ H Q
  | [], σ, H, Q, F, A, ρ, m, w, got => Got.now got w ⟨[], rfl, .nil⟩
  | (x, f) :: r, σ, H, Q, F, A, ρ, m, w, got => by
    refine ⟨F, A, ρ, m, w, (Got.bind (R1 := rS K) got).mono fun y H1 ⟨F1, A1, m1, a, n1, w1, ra, g1⟩ => ?_⟩
    refine tp_rcd r w1 ((Got.bind (R1 := relD K) g1).mono fun ps H2 ⟨F2, A2, m2, fs, n2, w2, ⟨vs, e, rg⟩, g2⟩ => ?_)
    exact Got.now g2 w2 ⟨(x, y) :: vs, by rw [e]; rfl, .cons (ra.next n2.sub n2.pre) rg⟩
theorem distinct_not {x : Str} {r : List Str} (h : distinct (x :: r) = true) : x ∉ r ∧ distinct r = true := by
  unfold distinct at h
  rw [Bool.and_eq_true] at h
  refine ⟨fun z => ?_, h.2⟩
  have := List.contains_iff_mem.mpr z
  rw [this] at h
  exact absurd h.1 (by simp)
theorem any_false {z : Str} {vs : List (Str × V)} (h : z ∉ vs.map (·.1)) : (vs.any fun kv => decide (kv.1 = z)) = false := by
  cases e : vs.any fun kv => decide (kv.1 = z) with
  | false => rfl
  | true =>
    obtain ⟨kv, h1, h2⟩ := List.any_eq_true.mp e
    exact absurd (List.mem_map.mpr ⟨kv, h1, of_decide_eq_true h2⟩) h
theorem merge_app : ∀ (vs us : List (Str × V)), (∀ x ∈ vs.map (·.1), x ∉ us.map (·.1)) → distinct (vs.map (·.1)) = true → mergeK (kvs us) (kvs vs) = kvs (us ++ vs)
  | [], us, _, _ => by rw [List.append_nil]; rfl
  | (y, v) :: r, us, h1, h2 => by
    have h2' : distinct (y :: r.map (·.1)) = true := h2
    obtain ⟨d1, d2⟩ := distinct_not h2'
    show mergeK (putK (kvs us) (Sum.inr y) v) (kvs r) = _
    rw [putK_kvs]
    have e : putL us y v = us ++ [(y, v)] := by
      unfold putL
      rw [any_false (h1 y (List.mem_cons_self ..)), if_neg Bool.false_ne_true]
    rw [e, merge_app r (us ++ [(y, v)]) (fun x hx => by
      rw [List.map_append]
      intro z
      rcases List.mem_append.mp z with z | z
      · exact h1 x (List.mem_cons_of_mem _ hx) z
      · have z' : x = y := List.mem_singleton.mp z
        exact d1 (by rw [← z']; exact hx)) d2]
    rw [List.append_assoc]
    rfl
theorem RpG.keys {F : Hp} {A : List Addr} : ∀ {vs : List (Str × V)} {fs : List (Str × Sl)}, RpG K F A vs fs → vs.map (·.1) = fs.map (·.1)
  | _, _, .nil => rfl
  | _, _, .cons _ r => by rw [List.map_cons, List.map_cons, RpG.keys r]
theorem Objs.addO {F : Hp} {A : List Addr} {m : List MO} {H : Hp} {p : Addr} {o : MO} (h : Objs K F A m H) (na : p ∉ A) (e : ∃ u, H p = some u) (r : MRep K F A H p o) (nt : ∀ ps, H p ≠ some (.tbl ps) := by exact notbl upd_same) : Objs K F (A ++ [p]) (m ++ [o]) H where
  sub := h.sub
  len := by rw [List.length_append, List.length_append, h.len]; rfl
  nd := List.nodup_append.mpr ⟨h.nd, (by simp), fun a ha b hb z => by rw [List.mem_singleton.mp hb] at z; exact na (z ▸ ha)⟩
  there := fun a ha => (List.mem_append.mp ha).elim (h.there a) fun z => by rw [List.mem_singleton.mp z]; exact e
  obj := fun i a u h1 h2 => by
    by_cases hi : i < A.length
    · rw [List.getElem?_append_left hi] at h1
      rw [List.getElem?_append_left (h.len ▸ hi)] at h2
      exact (h.obj i a u h1 h2).next (Same.refl _) (List.prefix_append _ _) (fun o e => e) id
    · rw [List.getElem?_append_right (Nat.le_of_not_lt hi)] at h1
      rw [List.getElem?_append_right (h.len ▸ Nat.le_of_not_lt hi), ← h.len] at h2
      cases z : i - A.length with
      | zero =>
        rw [z] at h1 h2
        cases h1
        cases h2
        exact r.next (Same.refl _) (List.prefix_append _ _) (fun o e => e) id
      | succ n => rw [z] at h1; cases h1
  gho := h.gho
  tab := fun q hq => ⟨fun z => (List.mem_append.mp z).elim (h.tab q hq).1 fun z => by
    obtain ⟨_, ps, e2, _⟩ := (h.tab q hq).2
    rw [List.mem_singleton.mp z] at e2
    exact nt ps e2, (h.tab q hq).2⟩
theorem Objs.over {F : Hp} {A : List Addr} {m : List MO} {H : Hp} {p : Addr} {u : HO} (h : Objs K F A m H) (fp : F p = none) (na : p ∉ A) (tD : ∀ ps, H p ≠ some (.tbl ps)) : Objs K F A m (upd H p u) where
  sub := fun b v e => by
    have ne : b ≠ p := fun z => by rw [z, fp] at e; cases e
    rw [upd_ne ne]; exact h.sub b v e
  len := h.len
  nd := h.nd
  there := fun a ha => by
    obtain ⟨o, e⟩ := h.there a ha
    exact ⟨o, by rw [upd_ne (fun z => na (by rw [← z]; exact ha))]; exact e⟩
  obj := fun i a o h1 h2 => (h.obj i a o h1 h2).next (Same.refl _) (List.prefix_refl _) (fun o e => by rw [upd_ne (fun z => na (by rw [← z]; exact List.mem_of_getElem? h1))]; exact e) id
  gho := h.gho
  tab := fun q hq => ⟨(h.tab q hq).1, (h.tab q hq).2.next (Same.refl _) (h.tab q hq).2.1 (fun o e => by
    have ne : q.1 ≠ p := fun z => by
      obtain ⟨_, ps, e2, _⟩ := (h.tab q hq).2
      exact tD ps (by rw [← z]; exact e2)
    rw [upd_ne ne]; exact e)⟩
theorem Nxt.addp {F F2 : Hp} {A A2 : List Addr} {H H2 : Hp} {p : Addr} {u : HO} (n : Nxt F A H F2 A2 H2) (hp : H p = none) : Nxt F A H F2 (A2 ++ [p]) (upd H2 p u) :=
  ⟨n.sub, List.IsPrefix.trans n.pre (List.prefix_append _ _), n.fresh, fun a ha => (List.mem_append.mp ha).elim (n.news a) fun z => .inr (by rw [List.mem_singleton.mp z]; exact hp),
    fun a o e ha => (n.keepT a o e ha).imp (fun ⟨ps, z, qs, q⟩ => ⟨ps, z, qs, by rw [upd_ne (ne_of_none e hp)]; exact q⟩) fun q => by rw [upd_ne (ne_of_none e hp)]; exact q⟩
theorem le_disp {l : List (Str × VE)} {σ : L2.St} {H : Hp} {Q : VK} (h : LE K W (vDisp l) σ H Q) : tDisp (l.map fun p => (tC (.str p.1), LE K W p.2)) σ H Q := by
  obtain ⟨F, A, ρ, m, w, got⟩ := h
  intro p np
  have w0 : Wd K F A ρ m σ (upd H p (.dK [])) := w.of (Same.refl _) (List.prefix_refl _) (w.os.keep np)
  have n0 : Nxt F A H F A (upd H p (.dK [])) := ⟨Same.refl _, List.prefix_refl _, fun _ _ e => .inl e, fun _ h => .inl h, fun a o e _ => .inr (by rw [upd_ne (ne_of_none e np)]; exact e)⟩
  refine tp_rcd l w0 ?_
  unfold vDisp at got
  match vRcd l ⟨ρ, m⟩, got with
  | none, got => exact none_got (show Got K W σ ρ F A H (rS K) none Q from got)
  | some (.ex C fs, m1), got =>
    have got : Got K W σ ρ F A H (rS K) (some (.ex C fs, m1)) Q := got
    obtain ⟨_, _, z, got⟩ := got
    cases z
    exact ⟨_, _, rfl, fun F' A' d vs H' n w' => got F' A' d vs H' (n0.trans n) w'⟩
  | some (.ok fs, m1), got =>
    have got : Got K W σ ρ F A H (rS K) (gDisp fs m1) Q := got
    unfold gDisp at got
    split at got
    · rename_i hc
      refine ⟨_, _, rfl, fun F2 A2 ps H2 n w2 r => ?_⟩
      obtain ⟨vs, e, rg⟩ := r
      have pA : p ∉ A := w.os.notin np
      have e2 : H2 p = some (.dK []) := n.keep p _ upd_same pA
      have f2 : F2 p = none := by
        cases q : F2 p with
        | none => rfl
        | some u =>
          rcases n.fresh p u q with y | y | y
          · rw [w.os.fnone np] at y; cases y
          · rw [upd_same] at y; cases y
          · exact absurd y pA
      have p2 : p ∉ A2 := fun z => by
        rcases n.news p z with y | y
        · exact pA y
        · rw [upd_same] at y; cases y
      have hk := rg.keys
      refine ⟨e2, kvs vs, ?_, ?_, ?_⟩
      · rw [e]; unfold kvs; rw [List.map_map]; rfl
      · unfold kvs; rw [List.length_map, rg.length]; exact hc.2
      · have em : mergeK [] (kvs vs) = kvs vs := merge_app vs [] (fun x _ z => by cases z) (by rw [hk]; exact hc.1)
        rw [em]
        have o3 : Objs K F2 (A2 ++ [p]) (m1 ++ [.rcd fs]) (upd H2 p (.dK (kvs vs))) := (w2.os.over f2 p2 (notbl e2)).addO p2 ⟨_, upd_same⟩ ⟨f2, vs, upd_same, rg⟩
        refine got.fin ((n0.trans n).addp np) (w2.of (Same.refl _) (List.prefix_append _ _) o3) ?_
        exact ⟨p, by rw [← w2.os.len, List.getElem?_append_right (Nat.le_refl _), Nat.sub_self]; rfl, rfl⟩
    · exact none_got got
theorem pe_vdisp {keys : List (Option Expr)} {values : List Expr} {l : List (Str × VE)} {pos : Pos} (h : PPs X pos keys values (l.map fun p => (tC (.str p.1), LE X.K W p.2))) (hall : keys.all (·.isSome) = true) (hl : keys.length = values.length) (h0 : keys ≠ []) (h15 : keys.length ≤ 15) : PE X (.Dict keys values pos) (LE X.K W (vDisp l)) := PE.imp (pe_disp h hall hl h0 h15) fun _ _ _ => le_disp
end
end Vs
end
section
namespace Own
open PySem PySem.Spec PyProof.Rows L2
section
variable {prog : Program} {w : World} {A : Around} {E : Value → Shared → Prop} {s : Shared}
theorem collect_tup {l : Addr} {vs : List Value} {Q : List Value → Shared → Prop} (hl : s.heap.IsTuple l vs.toArray)
    (h : Q vs { s with heap := (s.heap.push (seqObj "list" #[] 0)).update s.heap.objs.size (Obj.mapSeq (· ++ vs.toArray)) }) (hsz : vs.length ≤ sizeLine) :
    wpAny (model prog w) A (collect (.ref l)) Q E s := by
  obtain ⟨o, ho, hc, n, hd⟩ := id hl
  unfold collect
  refine wpAny_bind (wpAny_runValue (codeAny_builtin entry_proto_collect' ?_))
  show wpAny _ _ (do again (.builtin "list.__iadd__" ⟨[← newList [], .ref l], []⟩)) _ _ s
  refine wpAny_bind (wpAny_newList (wpAny_pure ⟨Code.quiet_builtin _ (by decide +kernel), codeAny_builtin entry_list_iadd' ?_⟩))
  show wpAny _ _ (Builtin.List.listExtendWith (.ref s.heap.objs.size) (.ref l) (.ref s.heap.objs.size)) _ _ { s with heap := s.heap.push (seqObj "list" #[] 0) }
  unfold Builtin.List.listExtendWith
  have ho' : (s.heap.push (seqObj "list" #[] 0)).get? l = some o := Heap.get?_push_of_some _ ho
  refine wpAny_bind (wpAny_typeOf (T := "tuple") ⟨o, ho', hc⟩ ?_)
  have ht : (Value.type "tuple" == Value.type "tuple") = true := by rfl
  rw [if_pos (by rw [ht]; simp)]
  refine wpAny_bind (listItems_at ho' hd ?_)
  refine wpAny_bind (listItems_at (xs := #[]) (n := 0) (Heap.get?_push_size _ rfl) rfl ?_)
  rw [if_neg (by simp)]
  refine wpAny_bind (listUpdate_at (xs := #[]) (n := 0) (Heap.get?_push_size _ rfl) rfl ?_ (Nat.zero_le _) (by show (#[] ++ vs.toArray).size ≤ sizeLine + 1; simp only [Array.size_append, List.size_toArray, List.length_nil]; omega))
  refine wpAny_pure ?_
  show wpAny (model prog w) A (do
      let o ← load s.heap.objs.size
      match o.data with
      | .seq xs _ => pure xs.toList
      | _ => unsupported "internal:collect") Q E { s with heap := (s.heap.push (seqObj "list" #[] 0)).update s.heap.objs.size (Obj.mapSeq (· ++ vs.toArray)) }
  refine wpAny_bind (wpAny_load (get?_update_seq (Heap.get?_push_size _ rfl) _) ?_)
  show wpAny _ _ (pure ((#[] : Array Value) ++ vs.toArray).toList) Q E _
  rw [show ((#[] : Array Value) ++ vs.toArray).toList = vs by simp]
  exact wpAny_pure h
theorem sorted_tupI {l : Addr} {vs : List Value} {ns : List Int} {Q : Value → Shared → Prop} (hl : s.heap.IsTuple l vs.toArray) (hI : IntsAre vs ns) (hL : vs.length ≤ sizeLine)
    (h : ∀ (out : Array Value) (ns' : List Int), IntsAre out.toList ns' → ns'.Perm ns → ns'.Pairwise (· ≤ ·) → Q (.ref (s.heap.objs.size + 1)) { s with heap := sortedAll s.heap vs out }) :
    wpAny (model prog w) A (call (.builtin "sorted") [.ref l]) Q E s := by
  refine Calls.call_function_entry kind_sorted plain_sorted entry_sorted (args_sorted1 _) ?_
  unfold Builtin.«sorted»
  refine wpAny_bind (m := checkCount "sorted" 1 1 _) (wpAny_pure ?_)
  refine wpAny_bind (collect_tup hl ?_ hL)
  refine wpAny_bind (wpAny_newList ?_)
  have hsz : ((s.heap.push (seqObj "list" #[] 0)).update s.heap.objs.size (Obj.mapSeq (· ++ vs.toArray))).objs.size = s.heap.objs.size + 1 := by
    rw [Heap.size_update, size_push']
  have hoL : (((s.heap.push (seqObj "list" #[] 0)).update s.heap.objs.size (Obj.mapSeq (· ++ vs.toArray))).push (seqObj "list" vs.toArray 0)).get? (s.heap.objs.size + 1) = some (seqObj "list" vs.toArray 0) := by
    rw [← hsz]; exact Heap.get?_push_size _ rfl
  show wpAny _ _ _ _ _ { s with heap := ((s.heap.push (seqObj "list" #[] 0)).update s.heap.objs.size (Obj.mapSeq (· ++ vs.toArray))).push (seqObj "list" vs.toArray 0) }
  rw [hsz]
  refine wpAny_bind (wpAny_holding (wpAny_call_entry slot_list_sort ⟨_, hoL, rfl⟩ entry_list_sort (list_sort_treeAny hoL hI hL fun out ns' a1 a2 a3 => ⟨_, rfl, ?_⟩) (args_list_sort _)))
  exact wpAny_pure ⟨_, rfl, h out ns' a1 a2 a3⟩
end
def rSortedT (K : PySem.W.Frag) : List V → Hp → VK → Prop := fun vs H Q => ∃ (a : Addr) (ns : List Int), vs = [V.ref a] ∧ SqT K H a (ns.map V.int) ∧
  ∀ (ns' : List Int) (p : Addr), ns'.Perm ns → ns'.Pairwise (· ≤ ·) → H p = none → Q (.ref p) (upd H p (.lst (ns'.map V.int)))
theorem cr_sortedT {X : Cx} : CallR X (.builtin "sorted") (rSortedT X.K) := by
  intro pins s σ H vs us Q I r h
  obtain ⟨a, ns, rfl, hs, q⟩ := h
  obtain ⟨its, rv, hl, hz⟩ := I.tuple hs
  rw [Vals.ref1 r]
  have hi := rv.ints
  refine sorted_tupI (show s.heap.IsTuple a its.toArray from hl) hi (by rw [← rv.length]; exact hz) fun out ns' h1 h2 h3 => ?_
  obtain ⟨ep, he'⟩ := PyProof.Rows.sortedAll_at s.heap its out
  have hlen : (ns'.map V.int).length ≤ sizeLine := by
    rw [List.length_map, h2.length_eq]
    rw [List.length_map] at hz
    exact hz
  exact ⟨.ref _, upd H (s.heap.objs.size + 1) (.lst (ns'.map V.int)), I.laid (t' := s.toks) (fun _ _ => PyProof.Rows.sortedAll_old) (Nat.le_succ _) ⟨hlen, out.toList, ep, vals_of_ints h1, he'⟩, rfl, q ns' _ h2 h3 (I.hok.fresh (Nat.le_succ _))⟩
end Own
end
section
namespace Vs
open PySem PySem.Spec PyProof.Rows L2
variable [WW]
section
variable {K : PySem.W.Frag} {W : WX} {X : Cx}
def frS (j : Nat) (ts : List T) : Sl → Sl
  | .own i => if i = j then .val (.lst ts) else .own i
  | s => s
def frO (j : Nat) (ts : List T) : MO → MO
  | .rcd fs => .rcd (fs.map fun p => (p.1, frS j ts p.2))
  | .ins C fs => .ins C (fs.map fun p => (p.1, frS j ts p.2))
  | .lsO ss => .lsO (ss.map (frS j ts))
  | o => o
def frz (i : Nat) (s : S) : S := match s.ρ[i]? with
  | some (some (.own j)) => match s.m[j]? with
    | some (.lst ts) => ⟨s.ρ.map (·.map (frS j ts)), (s.m.map (frO j ts)).set j .dead⟩
    | _ => s
  | _ => s
theorem RpS.frz {F : Hp} {A : List Addr} {v : V} {s : Sl} {j : Nat} {a : Addr} {ts : List T} {xs : List V} (ea : A[j]? = some a) (fa : F a = some (.lst xs)) (rl : RpL K F xs ts) (r : RpS K F A v s) : RpS K F A v (frS j ts s) := by
  cases s with
  | val t => exact r
  | own i =>
    unfold frS
    simp only
    by_cases e : i = j
    · rw [if_pos e]
      subst e
      obtain ⟨b, h1, rfl⟩ := r
      rw [ea] at h1
      cases h1
      exact .lst fa rl
    · rw [if_neg e]; exact r
theorem RpG.frz {F : Hp} {A : List Addr} {j : Nat} {a : Addr} {ts : List T} {xs : List V} (ea : A[j]? = some a) (fa : F a = some (.lst xs)) (rl : RpL K F xs ts) : ∀ {vs : List (Str × V)} {fs : List (Str × Sl)}, RpG K F A vs fs → RpG K F A vs (fs.map fun p => (p.1, frS j ts p.2))
  | _, _, .nil => .nil
  | _, _, .cons h r => .cons (h.frz ea fa rl) (RpG.frz ea fa rl r)
theorem RpSs.frz {F : Hp} {A : List Addr} {j : Nat} {a : Addr} {ts : List T} {xs : List V} (ea : A[j]? = some a) (fa : F a = some (.lst xs)) (rl : RpL K F xs ts) : ∀ {vs : List V} {ss : List Sl}, RpSs K F A vs ss → RpSs K F A vs (ss.map (frS j ts))
  | _, _, .nil => .nil
  | _, _, .cons h r => .cons (h.frz ea fa rl) (RpSs.frz ea fa rl r)
theorem frz_ok {F : Hp} {A : List Addr} {ρ : List (Option Sl)} {m : List MO} {σ : L2.St} {H : Hp} (i : Nat) (w : Wd K F A ρ m σ H) : ∃ F', Nxt F A H F' A H ∧ Wd K F' A (frz i ⟨ρ, m⟩).ρ (frz i ⟨ρ, m⟩).m σ H := by
  unfold frz
  split
  · rename_i j e
    split
    · rename_i ts em
      simp only at e em
      obtain ⟨v, ev, a, ea, rfl⟩ := w.slot i _ e
      obtain ⟨fa, xs, eh, rl⟩ := w.os.obj j a _ ea em
      obtain ⟨n2, w2⟩ := freeze w ea em fa eh
      have rl2 := rl.same n2.sub
      have fa2 : upd F a (.lst xs) a = some (.lst xs) := upd_same
      refine ⟨_, n2, ⟨⟨w2.os.sub, ?_, w2.os.nd, w2.os.there, ?_, w2.os.gho, w2.os.tab⟩, ?_, ?_⟩⟩
      · simp only [List.length_set, List.length_map]; exact w.os.len
      · intro k b o h1 h2
        simp only at h2
        by_cases z : j = k
        · subst z
          have hl : j < (m.map (frO j ts)).length := by
            have := (List.getElem?_eq_some_iff.mp h2).1
            rw [List.length_set] at this
            exact this
          rw [List.getElem?_set_self hl] at h2
          cases h2
          trivial
        · rw [List.getElem?_set_ne z, List.getElem?_map] at h2
          cases q : m[k]? with
          | none => rw [q] at h2; cases h2
          | some u =>
            rw [q] at h2
            cases h2
            have r := w2.os.obj k b u h1 (by rw [List.getElem?_set_ne z]; exact q)
            cases u with
            | lst us => exact r
            | rcd fs => obtain ⟨r1, vs, r2, r3⟩ := r; exact ⟨r1, vs, r2, r3.frz ea fa2 rl2⟩
            | ins C fs => obtain ⟨r1, dx, vs, r2, r3⟩ := r; exact ⟨r1, dx, vs, r2, r3.frz ea fa2 rl2⟩
            | lsO ss => obtain ⟨r1, vs, r2, r3⟩ := r; exact ⟨r1, vs, r2, r3.frz ea fa2 rl2⟩
            | dct ps => exact r
            | dctL ps => exact r
            | dead => trivial
      · intro k r h
        simp only [List.getElem?_map] at h
        cases q : ρ[k]? with
        | none => rw [q] at h; cases h
        | some u =>
          rw [q] at h
          cases u with
          | none => cases h
          | some s =>
            cases h
            obtain ⟨v, h1, h2⟩ := w2.slot k s q
            exact ⟨v, h1, h2.frz ea fa2 rl2⟩
      · simp only [List.length_map]; exact w.slen
    · exact ⟨F, Nxt.refl, w⟩
  · exact ⟨F, Nxt.refl, w⟩
def vFrz (i : Nat) (f : VS) : VS := fun s => f (frz i s)
theorem ls_frz {i : Nat} {f : VS} {D : Ends} {σ : L2.St} {H : Hp} (h : LS K W (vFrz i f) D σ H) : LS K W f D σ H := by
  obtain ⟨F, A, ρ, m, w, r⟩ := h
  obtain ⟨F', n, w'⟩ := frz_ok i w
  exact ⟨F', A, _, _, w', Ran.later r n⟩
theorem ps_frz {st : Stmt} {f : VS} (i : Nat) (h : PS X st (LS K W f)) : PS X st (LS K W (vFrz i f)) := PS.imp h fun _ _ _ => ls_frz
def numT : Nat → List T → List T
  | _, [] => []
  | i, t :: r => .pr [.int i, t] :: numT (i + 1) r
theorem numT_len : ∀ (k : Nat) (ts : List T), (numT k ts).length = ts.length
  | _, [] => rfl
  | k, t :: r => by show (numT (k + 1) r).length + 1 = _; rw [numT_len (k + 1) r]; rfl
theorem numT_get : ∀ (k : Nat) (ts : List T) (i : Nat) (t : T), (numT k ts)[i]? = some t → ∃ u, ts[i]? = some u ∧ t = .pr [.int ((k + i : Nat) : Int), u]
  | k, [], i, t, e => by simp [numT] at e
  | k, u :: r, 0, t, e => by
    cases e
    exact ⟨u, rfl, rfl⟩
  | k, u :: r, i + 1, t, e => by
    obtain ⟨w, h1, h2⟩ := numT_get (k + 1) r i t e
    exact ⟨w, h1, by rw [h2, show k + 1 + i = k + (i + 1) by omega]⟩
theorem Rp.pair {F : Hp} {A : List Addr} {m : List MO} {H : Hp} {p : Addr} {x y : V} {t u : T} (o : Objs K F A m H) (np : H p = none) (rx : Rp K F x t) (ry : Rp K F y u) :
    ∃ F', Nxt F A H F' A (upd H p (.tup [x, y])) ∧ Objs K F' A m (upd H p (.tup [x, y])) ∧ Rp K F' (.ref p) (.pr [t, u]) :=
  have s := same_new (o := HO.tup [x, y]) (o.fnone np)
  ⟨_, Nxt.new o np, o.new np, .pr (SqT.of upd_same) (.cons (rx.same s) (.cons (ry.same s) .nil))⟩
theorem walk_enum {F : Hp} {A : List Addr} {H : Hp} {a : Addr} {xs : List V} {ts : List T} (s : Same F H) (h : SqL K F a xs) (r : RpL K F xs ts) : Walks K F A H (Ite K a) (numT 0 ts) := fun F' A' H' m n o i => by
  have h' : SqL K H' a xs := o.sub.seq (n.seq h)
  refine ⟨fun t e => ?_, fun hi => ⟨xs, h', by rw [r.length, ← numT_len 0 ts]; exact hi⟩⟩
  obtain ⟨u, eu, rfl⟩ := numT_get 0 ts i t e
  obtain ⟨v, ev, rv⟩ := r.get eu
  refine ⟨⟨xs, v, h', ev⟩, fun x H'' ⟨T', y, ex, np, eH, q⟩ => ?_⟩
  subst ex eH
  have := q xs h'
  rw [ev] at this
  cases this
  rw [Nat.zero_add]
  exact Rp.pair o np (.int _) (rv.same n)
theorem walk_enumT {F : Hp} {A : List Addr} {H : Hp} {a : Addr} {xs : List V} {ts : List T} (s : Same F H) (h : SqT K F a xs) (r : RpL K F xs ts) : Walks K F A H (Own.IteT K a) (numT 0 ts) := fun F' A' H' m n o i => by
  have h' : SqT K H' a xs := sqT_same o.sub (sqT_same n h)
  refine ⟨fun t e => ?_, fun hi => ⟨xs, h', by rw [r.length, ← numT_len 0 ts]; exact hi⟩⟩
  obtain ⟨u, eu, rfl⟩ := numT_get 0 ts i t e
  obtain ⟨v, ev, rv⟩ := r.get eu
  refine ⟨⟨xs, v, h', ev⟩, fun x H'' ⟨T', y, ex, np, eH, q⟩ => ?_⟩
  subst ex eH
  have := q xs h'
  rw [ev] at this
  cases this
  rw [Nat.zero_add]
  exact Rp.pair o np (.int _) (rv.same n)
def zipT (ts us : List T) : List T := List.zipWith (fun t u => .pr [t, u]) ts us
def gLs : Sl → Option (List T)
  | .val (.lst ts) => some ts
  | .val (.seq ts) => some ts
  | _ => none
theorem gLs_at {F : Hp} {A : List Addr} {x : V} {s : Sl} {ts : List T} (r : RpS K F A x s) (e : gLs s = some ts) : ∃ a xs, x = .ref a ∧ SqL K F a xs ∧ RpL K F xs ts := by
  unfold gLs at e
  split at e
  · cases e
    cases r with
    | lst h q => exact ⟨_, _, rfl, SqL.of h, q⟩
  · cases e
    cases r with
    | seq h q => exact ⟨_, _, rfl, h, q⟩
  · cases e
def gEnumL (ss : List Sl) (m : List MO) : M (List T) := match ss with
  | [s] => match gLs s with
    | some ts => rM (numT 0 ts) m
    | none => match s with
      | .val (.tup ts) => rM (numT 0 ts) m
      | _ => none
  | _ => none
def vEnum (f : VA) : VI := fun s => bM (f s) gEnumL
theorem pi_venum {e : Expr} {f : VA} {p pos tpos : Pos} {elts : List Expr} {kk : Nat} (hg : Gl X "enumerate") (hm : X.mg "enumerate" = none) (ha : PA X [e] (LA X.K W f)) (hs : starEach [e] X.env = [(false, eval e X.env)] := by rfl) : PI X (.Tuple elts kk tpos) (.Call (.Name "enumerate" p) [e] [] pos) (LI X.K W (vEnum f)) := PI.imp (Own.pi_enumS hg hm ha hs) fun σ H R ⟨F, A, ρ, m, w, g⟩ =>
  ⟨F, A, ρ, m, w, (Got.bind (R1 := fun F' A' _ vs ss => RpSs X.K F' A' vs ss) g).mono fun vs H1 ⟨F1, A1, m1, ss, n, w1, rs, q⟩ => by
    unfold gEnumL at q
    split at q
    · split at q
      · rename_i ts e
        obtain ⟨x, rfl, rx⟩ := rpSs1 rs
        obtain ⟨a, xs, rfl, h1, h2⟩ := gLs_at rx e
        exact ⟨a, xs, rfl, .inl ⟨w1.os.sub.seq h1, q.now w1 (walk_enum w1.os.sub h1 h2)⟩⟩
      · split at q
        · obtain ⟨x, rfl, rx⟩ := rpSs1 rs
          cases rx with
          | tup h1 h2 => exact ⟨_, _, rfl, .inr ⟨sqT_same w1.os.sub h1.1, q.now w1 (walk_enumT w1.os.sub h1.1 h2)⟩⟩
        · exact none_got q
    · exact none_got q⟩
def gZipL (ss : List Sl) (m : List MO) : M (List T) := match ss with
  | [s, s'] => match gLs s, gLs s' with
    | some ts, some us => rM (zipT ts us) m
    | _, _ => none
  | _ => none
def vZip (f : VA) : VI := fun s => bM (f s) gZipL
theorem rgV_rp {F : Hp} {a b : Int} : RpL K F (rgV a b) (intsT a (b - a).toNat) := by
  have key : ∀ (n : Nat) (lo : Int), RpL K F ((List.range n).map fun i => V.int (lo + (i : Nat))) (intsT lo n) := by
    intro n
    induction n with
    | zero => intro lo; exact .nil
    | succ n ih =>
      intro lo
      rw [List.range_succ_eq_map, List.map_cons, List.map_map]
      refine .cons (by rw [show lo + ((0 : Nat) : Int) = lo by omega]; exact .int lo) ?_
      have h := ih (lo + 1)
      have e : ((fun i : Nat => V.int (lo + (i : Nat))) ∘ Nat.succ) = fun i : Nat => V.int (lo + 1 + (i : Nat)) := by
        funext i
        show V.int (lo + ((i + 1 : Nat) : Int)) = _
        rw [show lo + ((i + 1 : Nat) : Int) = lo + 1 + (i : Nat) by omega]
      rw [e]
      exact h
  exact key _ _
def gListRg (a : Sl) (m : List MO) : M (List T) := match a with
  | .val (.int n) => if -1000000 ≤ n ∧ n ≤ 1000000 then rM (intsT 0 n.toNat) m else none
  | _ => none
def vListRg (f : VE) : VN := fun s => bM (f s) gListRg
theorem pe_vlistRg {a : Expr} {f : VE} {p pos p' pos' : Pos} (hc : X.calm = true) (hg : Gl X "list") (hm : X.mg "list" = none) (hg' : Gl X "range") (hm' : X.mg "range" = none) (ha : PE X a (LE X.K W f)) (na' : starEach [a] X.env = (false, eval a X.env) :: starEach [] X.env := by rfl)
    (na : starEach [.Call (.Name "range" p') [a] [] pos'] X.env = (false, eval (.Call (.Name "range" p') [a] [] pos') X.env) :: starEach [] X.env := by rfl) : PE X (.Call (.Name "list" p) [.Call (.Name "range" p') [a] [] pos'] [] pos) (LN X.K W (vListRg f)) :=
  PE.imp (pe_listRg hc hg hm (prg_1 hg' hm' ha na') na) fun σ H Q ⟨F, A, ρ, m, w, g⟩ => ⟨F, A, ρ, m, w, (Got.bind (R1 := rS X.K) g).mono fun x H1 ⟨F1, A1, m1, s, n1, w1, ra, q⟩ => by
    unfold gListRg at q
    split at q
    · split at q
      · rename_i n hn
        cases ra
        refine ⟨n, rfl, ⟨by omega, by omega, by omega, by omega, by omega⟩, fun l nl => ?_⟩
        have r := rgV_rp (K := X.K) (F := F1) (a := 0) (b := n)
        rw [Int.sub_zero] at r
        exact new_list n1 q w1 nl r (by rw [intsT_len]; show n.toNat ≤ 1000000; omega)
      · exact none_got q
    · exact none_got q⟩
abbrev rSortedS2 (K : PySem.W.Frag) : List V → Hp → VK → Prop := fun vs H Q => rSortedI K vs H Q ∨ Own.rSortedT K vs H Q
def gSortS : List Sl → List MO → M (List T)
  | [s], m => match (seqOf s m).bind intsOf with
    | some ns => if ns.length ≤ SZ then rM ((sortI ns).map T.int) m else none
    | none => none
  | _, _ => none
theorem cv_sortS : CallVN K (rSortedS2 K) gSortS := by
  intro W F0 F A0 A ρ m σ H0 H xs ss Q n w rs g
  unfold gSortS at g
  split at g
  · split at g
    · rename_i ns e
      split at g
      · rename_i hz
        obtain ⟨ts, e1, e2⟩ := bind_some e
        obtain ⟨x, rfl, rx⟩ := rpSs1 rs
        obtain ⟨a, ys, rfl, h1, h2⟩ := seqOf_at w.os rx e1
        obtain rfl := intsOf_rp h2 e2
        have fin : ∀ (ns' : List Int) (p : Addr), ns'.Perm ns → ns'.Pairwise (· ≤ ·) → H p = none → Q (.ref p) (upd H p (.lst (ns'.map V.int))) := fun ns' p hp hs np => by
          rw [sorted_uniq (hp.trans (sortI_perm ns).symm) hs (sortI_sorted ns)]
          exact new_list n g w np rp_ints (by rw [List.length_map, (sortI_perm ns).length_eq]; exact hz)
        exact h1.elim (fun h => .inl ⟨a, ns, rfl, h, fin⟩) fun h => .inr ⟨a, ns, rfl, h, fin⟩
      · exact none_got g
    · exact none_got g
  · exact none_got g
end
end Vs
end
section
namespace Vs
open PySem PySem.Spec PyProof.Rows L2
variable [WW]
section
variable {K : PySem.W.Frag} {W : WX} {X : Cx}
def FldOk (K : PySem.W.Frag) (f : Str) (ok : Addr → Bool) : Prop := ∀ C, ok C = true → Cls K C ∧ NoAttr K C f
def gFld (ok : Addr → Bool) (f : Str) (s : Sl) (m : List MO) : M Sl := match s with
  | .val (.ins C fs) => if ok C = true then match fs.lookup f with
    | some t => rM (.val t) m
    | none => none
    else none
  | .own i => match m[i]? with
    | some (.ins C fs) => if ok C = true then match fs.lookup f with
      | some t => rM t m
      | none => none
      else none
    | _ => none
  | _ => none
def vFld (ok : Addr → Bool) (f : Str) (fe : VE) : VE := fun s => bM (fe s) (gFld ok f)
theorem fld_go {F : Hp} {A : List Addr} {ρ : List (Option Sl)} {m : List MO} {σ : L2.St} {H : Hp} {x : V} {s : Sl} {f : Str} {ok : Addr → Bool} {Q : VK} (hok : FldOk K f ok) (w : Wd K F A ρ m σ H) (rx : RpS K F A x s) (g : Got K W σ ρ F A H (rS K) (gFld ok f s m) Q) :
    ∃ a C dx fs v, x = .ref a ∧ H a = some (.ins C dx fs) ∧ Cls K C ∧ NoAttr K C f ∧ fs.lookup f = some v ∧ Q v H := by
  unfold gFld at g
  split at g
  · rename_i C fs
    split at g
    · rename_i hc
      split at g
      · rename_i t et
        cases rx with
        | ins h r =>
          obtain ⟨v, ev, rv⟩ := r.lookup et
          exact ⟨_, C, _, _, v, rfl, w.os.sub _ _ h, (hok C hc).1, (hok C hc).2, ev, g.now w (show RpS K F A v (.val t) from rv)⟩
      · exact none_got g
    · exact none_got g
  · rename_i i
    split at g
    · rename_i C fs em
      split at g
      · rename_i hc
        split at g
        · rename_i t et
          obtain ⟨a, ea, rfl⟩ := rx
          obtain ⟨fa, dx, vs, eh, rg⟩ := w.os.obj i a _ ea em
          obtain ⟨v, ev, rv⟩ := rg.lookup et
          exact ⟨a, C, dx, vs, v, rfl, eh, (hok C hc).1, (hok C hc).2, ev, g.now w rv⟩
        · exact none_got g
      · exact none_got g
    · exact none_got g
  · exact none_got g
theorem pe_vfld {e : Expr} {f : Str} {fe : VE} {pos : Pos} (ok : Addr → Bool) (hok : FldOk X.K f ok) (he : PE X e (LE X.K W fe)) (hb : attributeBase e f X.env (eval e X.env) = eval e X.env := by rfl) : PE X (.Attribute e f pos) (LE X.K W (vFld ok f fe)) := PE.imp (pe_fld he hb) fun σ H Q ⟨F, A, ρ, m, w, g⟩ =>
  ⟨F, A, ρ, m, w, (Got.bind (R1 := rS X.K) g).mono fun x H1 ⟨F1, A1, m1, s, n1, w1, rx, q⟩ => fld_go hok w1 rx q⟩
def putS (f : Str) (s : Sl) : List (Str × Sl) → List (Str × Sl)
  | [] => [(f, s)]
  | (g, x) :: r => if g = f then (g, s) :: r else (g, x) :: putS f s r
theorem RpG.putF {F : Hp} {A : List Addr} {f : Str} {v : V} {s : Sl} (rv : RpS K F A v s) : ∀ {vs : List (Str × V)} {fs : List (Str × Sl)}, RpG K F A vs fs → RpG K F A (putF f v vs) (putS f s fs)
  | _, _, .nil => .cons rv .nil
  | _, _, .cons (x := y) h r => by
    show RpG K F A (if y = f then _ else _) (if y = f then _ else _)
    by_cases e : y = f
    · rw [if_pos e, if_pos e]; exact .cons rv r
    · rw [if_neg e, if_neg e]; exact .cons h (RpG.putF rv r)
def gSetF (ok : Addr → Bool) (f : Str) (ρ : List (Option Sl)) (v o : Sl) (m : List MO) : R := match o with
  | .own i => match m[i]? with
    | some (.ins C fs) => if ok C = true ∧ fs.length < 1000 then some (.nx, ⟨ρ, m.set i (.ins C (putS f v fs))⟩) else none
    | _ => none
  | _ => none
def vSetF (ok : Addr → Bool) (f : Str) (fo fv : VE) : VS := fun s => bS s.ρ (fv s) fun v m1 => bS s.ρ (fo ⟨s.ρ, m1⟩) fun o m2 => gSetF ok f s.ρ v o m2
theorem setF_go {F : Hp} {A : List Addr} {ρ : List (Option Sl)} {m : List MO} {σ : L2.St} {H : Hp} {D : Ends} {v o : Sl} {x y : V} {f : Str} {ok : Addr → Bool} (hok : FldOk K f ok) (w : Wd K F A ρ m σ H) (rv : RpS K F A y v) (ro : RpS K F A x o) (q : Ran K W F A H D (gSetF ok f ρ v o m)) :
    ∃ a C dx fs, x = .ref a ∧ H a = some (.ins C dx fs) ∧ Cls K C ∧ NoAttr K C f ∧ fs.length < 1000 ∧ D.nx σ (upd H a (.ins C dx (putF f y fs))) := by
  unfold gSetF at q
  split at q
  · rename_i i
    split at q
    · rename_i C fs em
      split at q
      · rename_i hc
        obtain ⟨a, ea, rfl⟩ := ro
        obtain ⟨fa, dx, vs, eh, rg⟩ := w.os.obj i a _ ea em
        refine ⟨a, C, dx, vs, rfl, eh, (hok C hc.1).1, (hok C hc.1).2, by rw [rg.length]; exact hc.2, ?_⟩
        have wr := w.os.write ea fa (u := .ins C dx (putF f y vs)) (o := .ins C (putS f v fs)) ⟨fa, dx, _, upd_same, rg.putF rv⟩
        exact (q.later (Nxt.write (List.mem_of_getElem? ea))).nx (w.of (Same.refl _) (List.prefix_refl _) wr)
      · exact none_ran q
    · exact none_ran q
  · exact none_ran q
theorem ps_vsetF {o value : Expr} {f : Str} {fo fv : VE} {pos pos' : Pos} (ok : Addr → Bool) (hok : FldOk X.K f ok) (ho : PE X o (LE X.K W fo)) (hv : PE X value (LE X.K W fv)) (hs : swapsWith value (some (.Attribute o f pos')) pos.line X.env = pure false := by rfl) :
    PS X (.Assign [.Attribute o f pos'] value pos) (LS X.K W (vSetF ok f fo fv)) := PS.imp (ps_fld ho hv hs) fun D σ H ⟨F, A, ρ, m, w, r⟩ =>
  ⟨F, A, ρ, m, w, (Ran.bS (rS X.K) r).mono fun y H1 ⟨F1, A1, m1, v, n1, w1, rv, q1⟩ => ⟨F1, A1, ρ, m1, w1, (Ran.bS (rS X.K) q1).mono fun x H2 ⟨F2, A2, m2, o, n2, w2, ro, q2⟩ =>
    setF_go hok w2 (rv.next n2.sub n2.pre) ro q2⟩⟩
def insOf (s : Sl) (m : List MO) : Option (Addr × List Str) := match s with
  | .val (.ins C fs) => some (C, fs.map (·.1))
  | .own i => match m[i]? with
    | some (.ins C fs) => some (C, fs.map (·.1))
    | _ => none
  | _ => none
theorem RpF.keys {F : Hp} : ∀ {vs : List (Str × V)} {ts : List (Str × T)}, RpF K F vs ts → vs.map (·.1) = ts.map (·.1)
  | _, _, .nil => rfl
  | _, _, .cons _ r => by rw [List.map_cons, List.map_cons, RpF.keys r]
theorem lookup_notin {f : Str} : ∀ {vs : List (Str × V)}, f ∉ vs.map (·.1) → vs.lookup f = none
  | [], _ => rfl
  | (g, v) :: r, h => by
    rw [List.lookup_cons]
    have ne : (f == g) = false := by rw [beq_eq_false_iff_ne]; exact fun z => h (by rw [z]; exact List.mem_cons_self ..)
    rw [ne]
    exact lookup_notin fun z => h (List.mem_cons_of_mem _ z)
theorem insOf_at {F : Hp} {A : List Addr} {m : List MO} {H : Hp} {s : Sl} {x : V} {C : Addr} {ns : List Str} (o : Objs K F A m H) (r : RpS K F A x s) (e : insOf s m = some (C, ns)) : ∃ a dx vs, x = .ref a ∧ H a = some (.ins C dx vs) ∧ vs.map (·.1) = ns := by
  unfold insOf at e
  split at e
  · cases e
    cases r with
    | ins h q => exact ⟨_, _, _, rfl, o.sub _ _ h, q.keys⟩
  · rename_i i
    split at e
    · rename_i C' fs em
      cases e
      obtain ⟨a, ea, rfl⟩ := r
      obtain ⟨fa, dx, vs, eh, rg⟩ := o.obj i a _ ea em
      exact ⟨a, dx, vs, rfl, eh, rg.keys⟩
    · cases e
  · cases e
def MV (X : Cx) (m : Str) (np : Nat) (C : Addr) (vf : VF) : Prop := Cls X.K C ∧ ∃ (k : Nat) (g : Addr) (fd : FuncData) (ps : List Str), Meth X.K C m g ∧ FnOk X.prog X.w X.K X.mg X.base (L2.CX X.prog X.w) k g fd ps (SpV X.K np vf) ∧ Room k X.A ∧ Binds X.K fd ps []
def tMethD (tb : Addr → Option VF) (K : PySem.W.Frag) (m : Str) (np : Nat) (E : L2.St → XK) (ta : TE) (t : TA) : TE := fun σ H Q => ta σ H fun x H1 => ∃ a C dx fs vf, x = .ref a ∧ H1 a = some (.ins C dx fs) ∧ fs.lookup m = none ∧ tb C = some vf ∧ t σ H1 fun vs H2 => SpV K np vf (x :: vs) H2 Q (E σ)
theorem pe_methD {tb : Addr → Option VF} {m : Str} {np : Nat} {E : L2.St → XK} {o e : Expr} {es : List Expr} {ta : TE} {t : TA} {apos pos : Pos} {pl : Sem Bool} (he : PE X o ta) (hT : ∀ C vf, tb C = some vf → MV X m np C vf) (hx : ∀ σ, PassesAt (L2.CX X.prog X.w) X σ (E σ)) (ha : PA X (e :: es) t)
    (hst : starEach (e :: es) X.env = (false, eval e X.env) :: starEach es X.env := by rfl) (hpl : (backTo pos (starEach es X.env)).any (·.1) = false := by rfl)
    (ht : eval (.Call (.Attribute o m apos) (e :: es) [] pos) X.env = (do
      let ov ← eval o X.env
      standAt apos.atName
      let (f, first) ← holding [ov] (getMethod ov m pl)
      callWith pos f first (backTo pos (starEach (e :: es) X.env)) (backToKw pos (keywordEach [] X.env))) := by rfl) :
    PE X (.Call (.Attribute o m apos) (e :: es) [] pos) (tMethD tb X.K m np E ta t) := by
  refine ⟨fun pins s σ H Q I h => ?_⟩
  refine PySem.W.methodCall_KW (pl := pl) (thn (he.run pins s σ H _ I h) fun u s1 ⟨x, H1, I1, rx, a, C, dx, fs, vf, ex, ea, l, hv, q⟩ => ?_) ht
  subst ex
  obtain rfl : u = Value.ref a := rx
  obtain ⟨c, k, g, fd, ps, hm, F, hr, hb⟩ := hT C vf hv
  refine getmeth_ok I1 ea c hm l ?_
  refine PySem.W.callWith_K (first := [.ref a]) (h₀ := X.base) I.ok.mod.kin hm.kp (thn (ha.run pos pins s1 σ H1 _ I1 q) fun us s2 ⟨vs, H2, I2, r, q2⟩ => ⟨I2.kIn, ?_⟩) hst hpl
  exact run_fnS (us := .ref a :: us) (vs := .ref a :: vs) F hr hb (hx σ) I2 (.cons rfl r) q2
theorem pe_methD0 {tb : Addr → Option VF} {m : Str} {np : Nat} {E : L2.St → XK} {o : Expr} {ta : TE} {apos pos : Pos} {pl : Sem Bool} (he : PE X o ta) (hT : ∀ C vf, tb C = some vf → MV X m np C vf) (hx : ∀ σ, PassesAt (L2.CX X.prog X.w) X σ (E σ))
    (ht : eval (.Call (.Attribute o m apos) [] [] pos) X.env = (do
      let ov ← eval o X.env
      standAt apos.atName
      let (f, first) ← holding [ov] (getMethod ov m pl)
      callWith pos f first (backTo pos (starEach [] X.env)) (backToKw pos (keywordEach [] X.env))) := by rfl) :
    PE X (.Call (.Attribute o m apos) [] [] pos) (tMethD tb X.K m np E ta tNil) := by
  refine ⟨fun pins s σ H Q I h => ?_⟩
  refine PySem.W.methodCall_KW (pl := pl) (thn (he.run pins s σ H _ I h) fun u s1 ⟨x, H1, I1, rx, a, C, dx, fs, vf, ex, ea, l, hv, q⟩ => ?_) ht
  subst ex
  obtain rfl : u = Value.ref a := rx
  obtain ⟨c, k, g, fd, ps, hm, F, hr, hb⟩ := hT C vf hv
  refine getmeth_ok I1 ea c hm l ?_
  exact PySem.W.callWith_K0 (first := [.ref a]) I1.kIn hm.kp (run_fnS (us := [.ref a]) (vs := [.ref a]) F hr hb (hx σ) I1 (.cons rfl .nil) q)
def vMethD (tb : Addr → Option VF) (m : Str) (fo : VE) (fa : VA) : VE := fun s => bM (fo s) fun o m1 => match insOf o m1 with
  | some (C, ns) => if m ∉ ns then match tb C with
    | some vf => bM (fa ⟨s.ρ, m1⟩) fun ss m2 => callM vf (o :: ss) m2
    | none => none
    else none
  | none => none
theorem le_methD {tb : Addr → Option VF} {m : Str} {np : Nat} {fo : VE} {fa : VA} (hn : ∀ s ss m, fa s = some (.ok ss, m) → ss.length + 1 = np) {σ : L2.St} {H : Hp} {Q : VK} (h : LE K W (vMethD tb m fo fa) σ H Q) : tMethD tb K m np (WE W) (LE K W fo) (LA K W fa) σ H Q := by
  obtain ⟨F, A, ρ, m0, w, got⟩ := h
  refine ⟨F, A, ρ, m0, w, (Got.bind (R1 := rS K) got).mono fun x H1 ⟨F1, A1, m1, o, n1, w1, ro, q⟩ => ?_⟩
  split at q
  · rename_i C ns e
    split at q
    · rename_i hns
      split at q
      · rename_i vf ev
        obtain ⟨a, dx, vs, rfl, ea, ek⟩ := insOf_at w1.os ro e
        refine ⟨a, C, dx, vs, vf, rfl, ea, lookup_notin (by rw [ek]; exact hns), ev, F1, A1, ρ, m1, w1, ?_⟩
        match e2 : fa ⟨ρ, m1⟩, q with
        | none, q => exact none_got (show Got K W σ ρ F1 A1 H1 (rS K) none Q from q)
        | some (.ex D fs, m2), q =>
          have q : Got K W σ ρ F1 A1 H1 (rS K) (some (.ex D fs, m2)) Q := q
          obtain ⟨_, _, z, q⟩ := q
          cases z
          exact ⟨_, _, rfl, q⟩
        | some (.ok ss, m2), q =>
          have q : Got K W σ ρ F1 A1 H1 (rS K) (callM vf (o :: ss) m2) Q := q
          have hl := hn _ _ _ e2
          exact ⟨_, _, rfl, fun F2 A2 ws H2 n2 w2 rs => call_got (by rw [List.length_cons, RpSs.length rs]; exact hl) w2 (.cons (ro.next n2.sub n2.pre) rs) (Got.later q n2)⟩
      · exact none_got q
    · exact none_got q
  · exact none_got q
theorem tNil_LA {f : VE} {tb : Addr → Option VF} {m : Str} {np : Nat} {σ : L2.St} {H : Hp} {Q : VK} (h : tMethD tb K m np (WE W) (LE K W f) (LA K W vNil) σ H Q) : tMethD tb K m np (WE W) (LE K W f) tNil σ H Q := by
  obtain ⟨F, A, ρ, m0, w, got⟩ := h
  refine ⟨F, A, ρ, m0, w, got.mono fun x H1 ⟨a, C, dx, fs, vf, ex, ea, l, hv, q⟩ => ⟨a, C, dx, fs, vf, ex, ea, l, hv, ?_⟩⟩
  obtain ⟨F2, A2, ρ2, m2, w2, g2⟩ := q
  exact g2.now w2 .nil
theorem pe_vmethD0 {tb : Addr → Option VF} {m : Str} {o : Expr} {fo : VE} {apos pos : Pos} {pl : Sem Bool} (tk : Takes X W) (hT : ∀ C vf, tb C = some vf → MV X m 1 C vf) (ho : PE X o (LE X.K W fo))
    (ht : eval (.Call (.Attribute o m apos) [] [] pos) X.env = (do
      let ov ← eval o X.env
      standAt apos.atName
      let (f, first) ← holding [ov] (getMethod ov m pl)
      callWith pos f first (backTo pos (starEach [] X.env)) (backToKw pos (keywordEach [] X.env))) := by rfl) :
    PE X (.Call (.Attribute o m apos) [] [] pos) (LE X.K W (vMethD tb m fo vNil)) := PE.imp (pe_methD0 ho hT (fun σ => passAt tk σ) ht) fun _ _ _ h => tNil_LA (le_methD (fun s ss m e => by rw [vnil_len s ss m e]) h)
def vMake (C : Addr) (vf : VF) (fa : VA) : VE := fun s => bM (fa s) fun ss m1 => bM (callM vf (.own m1.length :: ss) (m1 ++ [.ins C []])) fun r m2 => match r with
  | .val .non => rM (.own m1.length) m2
  | _ => none
theorem make_go {np : Nat} {C : Addr} {vf : VF} {F : Hp} {A : List Addr} {ρ : List (Option Sl)} {m1 : List MO} {σ : L2.St} {H1 : Hp} {vs : List V} {ss : List Sl} {Q : VK} (hl : vs.length + 1 = np) (w1 : Wd K F A ρ m1 σ H1) (rs : RpSs K F A vs ss)
    (q : Got K W σ ρ F A H1 (rS K) (bM (callM vf (.own m1.length :: ss) (m1 ++ [.ins C []])) fun r m2 => match r with
      | .val .non => rM (.own m1.length) m2
      | _ => none) Q) (x dx : Addr) (nx : H1 x = none) (nd : H1 dx = none) (ne : dx ≠ x) : SpV K np vf (.ref x :: vs) (upd (upd H1 dx (.own x)) x (.ins C dx [])) (fun v H2 => v = .non ∧ Q (.ref x) H2) (WE W σ) := by
  have o1 : Objs K F A m1 (upd H1 dx (.own x)) := w1.os.keep nd
  have nx1 : upd H1 dx (.own x) x = none := by rw [upd_ne (Ne.symm ne)]; exact nx
  have n0 : Nxt F A H1 F A (upd H1 dx (.own x)) := ⟨Same.refl _, List.prefix_refl _, fun _ _ e => .inl e, fun _ h => .inl h, fun a o e _ => .inr (by rw [upd_ne (ne_of_none e nd)]; exact e)⟩
  have xA : x ∉ A := w1.os.notin nx
  have fx : F x = none := w1.os.fnone nx
  have o2 : Objs K F (A ++ [x]) (m1 ++ [.ins C []]) (upd (upd H1 dx (.own x)) x (.ins C dx [])) := (o1.over fx xA (notbl0 nx1)).addO xA ⟨_, upd_same⟩ ⟨fx, dx, [], upd_same, .nil⟩
  have n2 : Nxt F A H1 F (A ++ [x]) (upd (upd H1 dx (.own x)) x (.ins C dx [])) := n0.addp nx
  have w2 := w1.of (Same.refl _) (List.prefix_append A [x]) o2
  have rx : RpS K F (A ++ [x]) (.ref x) (.own m1.length) := ⟨x, by rw [← w1.os.len, List.getElem?_append_right (Nat.le_refl _), Nat.sub_self]; rfl, rfl⟩
  have rs2 : RpSs K F (A ++ [x]) vs ss := by
    clear q hl
    induction rs with
    | nil => exact .nil
    | cons h _ ih => exact .cons (h.next (Same.refl _) (List.prefix_append _ _)) ih
  refine call_got (by rw [List.length_cons]; exact hl) w2 (.cons rx rs2) ((Got.bind (R1 := rS K) (Got.later q n2)).mono fun b H3 ⟨F3, A3, m3, r, n3, w3, rr, q3⟩ => ?_)
  split at q3
  · cases rr
    refine ⟨rfl, q3.now w3 ?_⟩
    exact rx.next n3.sub n3.pre
  · exact none_got q3
theorem le_make {np : Nat} {C : Addr} {vf : VF} {fa : VA} (hn : ∀ s ss m, fa s = some (.ok ss, m) → ss.length + 1 = np) {σ : L2.St} {H : Hp} {Q : VK} (h : LE K W (vMake C vf fa) σ H Q) : Own.tMakeS C (SpV K np vf) [] (WE W) (LA K W fa) σ H Q := by
  obtain ⟨F, A, ρ, m, w, g⟩ := h
  refine ⟨F, A, ρ, m, w, ?_⟩
  match e : fa ⟨ρ, m⟩, g with
  | none, g => unfold vMake at g; rw [e] at g; exact none_got g
  | some (.ex D fs, m1), g =>
    unfold vMake at g
    rw [e] at g
    obtain ⟨_, _, z, g⟩ := g
    cases z
    exact ⟨_, _, rfl, g⟩
  | some (.ok ss, m1), g =>
    unfold vMake at g
    rw [e] at g
    have hl := hn _ _ _ e
    refine ⟨_, _, rfl, fun F1 A1 vs H1 n1 w1 rs x dx nx nd ne => ?_⟩
    rw [List.append_nil]
    exact make_go (by rw [RpSs.length rs]; exact hl) w1 rs (Got.later g n1) x dx nx nd ne
theorem pe_vmake {np k : Nat} {C f : Addr} {fd : FuncData} {ps : List Str} {vf : VF} {fa : VA} {x : Str} {e : Expr} {es : List Expr} {p pos : Pos} (M : Mk X.K C f) (F : FnOk X.prog X.w X.K X.mg X.base (L2.CX X.prog X.w) k f fd ps (SpV X.K np vf)) (hr : Room (k + 1) X.A) (hg : Gl X x) (hm : X.mg x = some (.ref C)) (hb : Binds X.K fd ps []) (tk : Takes X W)
    (ha : PA X (e :: es) (LA X.K W fa)) (hn : ∀ s ss m, fa s = some (.ok ss, m) → ss.length + 1 = np) (hdb : (x == ("__debug__" : Str)) = false := by decide) (he : starEach (e :: es) X.env = (false, eval e X.env) :: starEach es X.env := by rfl) (hpl : (backTo pos (starEach es X.env)).any (·.1) = false := by rfl) :
    PE X (.Call (.Name x p) (e :: es) [] pos) (LE X.K W (vMake C vf fa)) := PE.imp (Own.pe_makeS M F hr hg hm hb .nil (fun σ => passAt tk σ) ha hdb he hpl) fun _ _ _ => le_make hn
def allVal : List (Str × Sl) → Option (List (Str × T))
  | [] => some []
  | (x, .val t) :: r => (allVal r).map ((x, t) :: ·)
  | _ => none
theorem RpF.same' {F F' : Hp} (e : Same F F') {vs : List (Str × V)} {ts : List (Str × T)} (r : RpF K F vs ts) : RpF K F' vs ts := RpF.same e r
theorem freezeU {F : Hp} {A : List Addr} {ρ : List (Option Sl)} {m : List MO} {σ : L2.St} {H : Hp} {i : Nat} {a : Addr} {u : HO} (w : Wd K F A ρ m σ H) (ea : A[i]? = some a) (fa : F a = none) (eh : H a = some u) :
    Nxt F A H (upd F a u) A H ∧ Wd K (upd F a u) A ρ (m.set i .dead) σ H := by
  have s1 : Same F (upd F a u) := same_new fa
  refine ⟨⟨s1, List.prefix_refl _, fun b u' e => ?_, fun _ h => .inl h, fun _ _ e _ => .inr e⟩, w.of s1 (List.prefix_refl _) ⟨fun b u' e => ?_, by rw [List.length_set]; exact w.os.len, w.os.nd, w.os.there, fun j b o h1 h2 => ?_, w.os.gho.trans s1, fun q hq => ⟨(w.os.tab q hq).1, (w.os.tab q hq).2.next s1 (by
    have ne : q.1 ≠ a := fun z => (w.os.tab q hq).1 (z ▸ List.mem_of_getElem? ea)
    rw [upd_ne ne]; exact (w.os.tab q hq).2.1) fun _ z => z⟩⟩⟩
  · by_cases z : b = a
    · subst z; exact .inr (.inr (List.mem_of_getElem? ea))
    · rw [upd_ne z] at e; exact .inl e
  · by_cases z : b = a
    · subst z; rw [upd_same] at e; rw [eh]; exact e
    · rw [upd_ne z] at e; exact w.os.sub b u' e
  · by_cases z : i = j
    · subst z
      have hl : i < m.length := by
        have := (List.getElem?_eq_some_iff.mp h2).1
        rw [List.length_set] at this
        exact this
      rw [List.getElem?_set_self hl] at h2
      cases h2
      trivial
    · rw [List.getElem?_set_ne z] at h2
      have ne : b ≠ a := fun q => by
        subst q
        obtain ⟨l1, e1⟩ := List.getElem?_eq_some_iff.mp ea
        obtain ⟨l2, e2⟩ := List.getElem?_eq_some_iff.mp h1
        exact z ((List.getElem_inj w.os.nd).mp (e1.trans e2.symm))
      exact (w.os.obj j b o h1 h2).next s1 (List.prefix_refl _) (fun _ e => e) fun e => by rw [upd_ne ne]; exact e
def gIns (r : Sl) (m : List MO) : M Sl := match r with
  | .own i => match m[i]? with
    | some (.ins C fs) => match allVal fs with
      | some ts => rM (.val (.ins C ts)) (m.set i .dead)
      | none => none
    | some (.lst ts) => rM (.val (.lst ts)) (m.set i .dead)
    | _ => none
  | s => rM s m
def vIns (f : VE) : VE := fun s => bM (f s) gIns
end
end Vs
end
section
namespace Vs
open PySem PySem.Spec PyProof.Rows L2
variable [WW]
section
variable {K : PySem.W.Frag} {W : WX} {X : Cx}
theorem pe_vneg {i : Int} {j : Nat} {p pos : Pos} : PE X (.UnaryOp .USub (.Constant (.int i) j p) pos) (LE X.K W (vC (.int (-i)))) := PE.imp (pe_un un_neg pe_int) fun σ H Q h => ⟨i, rfl, le_c (v := .int (-i)) (t := .int (-i)) (fun _ => .int _) h⟩
def cPow (i j : Int) : Bool := decide (0 ≤ j ∧ j ≤ 1000000 ∧ i.natAbs < 2 ^ 64)
theorem cPow_ok (i j : Int) (h : cPow i j = true) : CPow i j := by
  unfold cPow at h
  have h2 := of_decide_eq_true h
  exact h2
theorem pe_vpow {a b : Expr} {fa fb : VE} {pos : Pos} (ha : PE X a (LE X.K W fa)) (hb : PE X b (LE X.K W fb)) : PE X (.BinOp a .Pow b pos) (LE X.K W (vBin (gIntC cPow fun i j => .int (i ^ j.toNat)) fa fb)) := pe_vop op_pow (ov_intC cPow_ok fun _ _ _ => .int _) ha hb
def gRev (a : Sl) (m : List MO) : M (List T) := match lsqOf a m with
  | some ts => if ts.length ≤ SZ then rM ts.reverse m else none
  | none => none
def vRev (f : VE) : VN := fun s => bM (f s) gRev
theorem pe_vrev {e : Expr} {f : VE} {k : Nat} {p1 p2 p3 pos : Pos} (he : PE X e (LE X.K W f)) : PE X (.Subscript e (.Slice none none (some (.UnaryOp .USub (.Constant (.int 1) k p1) p2)) p3) pos) (LN X.K W (vRev f)) := PE.imp (pe_revL he) fun σ H Q ⟨F, A, ρ, m, w, g⟩ =>
  ⟨F, A, ρ, m, w, (Got.bind (R1 := rS X.K) g).mono fun x H1 ⟨F1, A1, m1, s, n1, w1, ra, q⟩ => by
    unfold gRev at q
    split at q
    · rename_i ts e
      split at q
      · rename_i hz
        obtain ⟨a, xs, rfl, h1, h2⟩ := lsqOf_at w1.os ra e
        exact ⟨a, xs, rfl, h1, fun p np => new_list n1 q w1 np h2.reverse (by rw [List.length_reverse]; exact hz)⟩
      · exact none_got q
    · exact none_got q⟩
abbrev rJoin (K : PySem.W.Frag) : V → List V → Hp → VK → Prop := fun x xs H Q => ∃ a p, ∃ ys : List Str, x = .str a ∧ xs = [.ref p] ∧ (SqL K H p (ys.map V.str) ∨ SqT K H p (ys.map V.str)) ∧ (ys.map (·.length)).sum + ys.length * a.length ≤ 16777216 ∧ Q (.str (Txt.join a ys)) H
def gJoin (o : Sl) (ss : List Sl) (m : List MO) : M Sl := match o, ss with
  | .val (.str a), [s] => match (seqOf s m).bind strsOf with
    | some ys => if (ys.map (·.length)).sum + ys.length * a.length ≤ 16777216 then rM (.val (.str (Txt.join a ys))) m else none
    | none => none
  | _, _ => none
end
end Vs
end
section
namespace Vs
open PySem PySem.Spec PyProof.Rows L2
variable [WW]
section
variable {K : PySem.W.Frag} {W : WX} {X : Cx}
theorem hu1 {n : Nat} (h : n + 64 < cLine) : n + 1 < cLine := Nat.lt_of_le_of_lt (Nat.add_le_add_left (by decide) _) h
def gPar (i j : Nat) (ρ : List (Option Sl)) (ss : List Sl) (m : List MO) : R := match ss with
  | [a, b] => some (.nx, ⟨(ρ.set i (some a)).set j (some b), m⟩)
  | _ => none
def vPar (i j : Nat) (f : VA) : VS := fun s => bS s.ρ (f s) (gPar i j s.ρ)
theorem ps_vpar {i j : Nat} {x y : Str} {a b : Expr} {f : VA} {px py pt : Pos} {kt k2 pt2} {pos : Pos} (hc : X.calm = true) (hN : X.N.Nodup) (hi : X.N[i]? = some x) (hj : X.N[j]? = some y) (hij : i ≠ j)
    (hx : X.env.scope.names.lookup x = some .local) (hy : X.env.scope.names.lookup y = some .local) (ha : PA X [a, b] (LA X.K W f))
    (hw : swappedStores [.Tuple [.Name x px, .Name y py] kt pt] (.Tuple [a, b] k2 pt2) X.env = pure (some [x, y]))
    (hs : swapsWithSole [.Tuple [.Name x px, .Name y py] kt pt] (.Tuple [a, b] k2 pt2) pos.line X.env = pure false := by rfl) :
    PS X (.Assign [.Tuple [.Name x px, .Name y py] kt pt] (.Tuple [a, b] k2 pt2) pos) (LS X.K W (vPar i j f)) := PS.imp (ps_par hc hN hi hj hij hx hy ha hw hs) fun D σ H ⟨F, A, ρ, m, w, r⟩ =>
  ⟨F, A, ρ, m, w, (Ran.bS (fun F' A' _ vs ss => RpSs X.K F' A' vs ss) r).mono fun vs H1 ⟨F1, A1, m1, ss, n1, w1, rs, q⟩ => by
    unfold gPar at q
    split at q
    · obtain ⟨v, u, rfl, rv, ru⟩ := rpSs2 rs
      exact ⟨v, u, rfl, q.nx ((w1.set rv).set ru)⟩
    · exact none_ran q⟩
theorem ls_set {i : Nat} {f : VE} {D : Ends} {σ : L2.St} {H : Hp} (h : LS K W (vSet i f) D σ H) : LE K W f σ H fun v H1 => D.nx (σ.set i (some v)) H1 := by
  obtain ⟨F, A, ρ, m, w, r⟩ := h
  exact ⟨F, A, ρ, m, w, (Ran.bS (rS K) r).mono fun b H1 ⟨F1, A1, m1, a, n, w1, ra, q⟩ => q.nx (w1.set ra)⟩
theorem ps_vsetLc {i : Nat} {y : Str} {py : Pos} {elt tg iter : Expr} {ifs : List Expr} {scope : Scope} (own : List (Str × Nat)) {pos spos : Pos} {it : VI} {L : List Nat} {g : VG} {tt : VT} {te : VE} (hL : ∀ i ∈ L, i ∈ own.map (·.2)) (hc : X.calm = true) (hN : X.N.Nodup) (hy : X.N[i]? = some y) (hyl : X.env.scope.names.lookup y = some .local)
    (hsw : swapsWith (.ListComp elt [⟨tg, iter, ifs, 0⟩] scope pos) (some (.Name y py)) spos.line X.env = pure true) (hi : PI X tg iter (LI X.K W it)) (ok : BlkOk X.N X.env.scope scope own)
    (hg : ∀ (s : Shared) (H : Hp) (C : Addr) (cl : List (Str × Addr)) (fp : List Addr), PG (X.blk s H scope (compEnvC scope cl C X.env) fp) tg (LG X.K L g)) (ht : ∀ (s : Shared) (H : Hp) (C : Addr) (cl : List (Str × Addr)) (fp : List Addr), PTs (X.blk s H scope (compEnvC scope cl C X.env) fp) ifs (LT X.K W0 tt))
    (he : ∀ (s : Shared) (H : Hp) (C : Addr) (cl : List (Str × Addr)) (fp : List Addr), PE (X.blk s H scope (compEnvC scope cl C X.env) fp) elt (LE X.K W0 te)) (hs : ∀ x, foldedSetIterable iter X.env x = pure x := by intro _; rfl) :
    PS X (.Assign [.Name y py] (.ListComp elt [⟨tg, iter, ifs, 0⟩] scope pos) spos) (LS X.K W (vSet i (vVal (vComp (own.map (·.2)) it g tt te)))) := PS.imp (ps_setLc hc hN hy hyl hsw hi ok hg ht he hs) fun D σ H h => le_comp hL (le_val (ls_set h))
def isStr (o : Sl) : Bool := match o with
  | .val (.str _) => true
  | _ => false
def vMetS (g : Sl → List Sl → List MO → M Sl) (fo : VE) (fa : VA) : VE := fun s => bM (fo s) fun o m1 => if isStr o = true then bM (fa ⟨s.ρ, m1⟩) fun ss m2 => g o ss m2 else none
theorem mv_join : MetV K (rJoin K) gJoin := by
  intro W F A ρ m σ H x xs o ss Q w ro rs g
  unfold gJoin at g
  split at g
  · split at g
    · rename_i ys e
      split at g
      · rename_i hz
        obtain ⟨ts, e1, e2⟩ := bind_some e
        cases ro
        obtain ⟨y, rfl, ry⟩ := rpSs1 rs
        obtain ⟨p, vs, rfl, h1, h2⟩ := seqOf_at w.os ry e1
        obtain rfl := strsOf_rp h2 e2
        exact ⟨_, p, ys, rfl, rfl, h1, hz, g.now w (.str _)⟩
      · exact none_got g
    · exact none_got g
  · exact none_got g
def vM1 (g : Sl → List Sl → List MO → M Sl) (fo fe : VE) : VE := fun s => bM (fo s) fun o m1 => if isStr o = true then bM (fe ⟨s.ρ, m1⟩) fun a m2 => g o [a] m2 else none
theorem le_m1 {r : V → List V → Hp → VK → Prop} {g : Sl → List Sl → List MO → M Sl} {fo fe : VE} (hv : MetV K r g) {σ : L2.St} {H : Hp} {Q : VK} (h : LE K W (vM1 g fo fe) σ H Q) : tM1 r (LE K W fo) (LE K W fe) σ H Q := by
  obtain ⟨F, A, ρ, m, w, got⟩ := h
  refine ⟨F, A, ρ, m, w, (Got.bind (R1 := rS K) got).mono fun x H1 ⟨F1, A1, m1, o, n1, w1, ro, q⟩ => ?_⟩
  by_cases e : isStr o = true
  · rw [if_pos e] at q
    unfold isStr at e
    split at e
    · refine ⟨?_, F1, A1, ρ, m1, w1, (Got.bind (R1 := rS K) q).mono fun y H2 ⟨F2, A2, m2, s, n2, w2, rs, g2⟩ => hv W F2 A2 ρ m2 σ H2 _ [y] _ [s] Q w2 (ro.next n2.sub n2.pre) (.cons rs .nil) g2⟩
      cases ro
      exact ⟨_, rfl⟩
    · cases e
  · rw [if_neg e] at q; exact none_got q
theorem pe_vjoin {o e : Expr} {fo fe : VE} {apos pos : Pos} (ho : PE X o (LE X.K W fo)) (he : PE X e (LE X.K W fe)) (hs : starEach [e] X.env = [(false, eval e X.env)] := by rfl) (hbase : attributeBase o "join" X.env (eval o X.env) = eval o X.env := by rfl) (hline : (apos.endLine == pos.line) = true := by rfl) :
    PE X (.Call (.Attribute o "join" apos) [e] [] pos) (LE X.K W (vM1 gJoin fo fe)) := PE.imp (pe_join ho he hs hbase hline) fun _ _ _ => le_m1 mv_join
end
abbrev dEq : Sl → Sl → List MO → M Sl := gDat PyData.eqv
abbrev dNe : Sl → Sl → List MO → M Sl := gDat fun d e => !PyData.eqv d e
abbrev dDiv : Sl → Sl → List MO → M Sl := gIntC cDiv fun i j => .int (i / j)
abbrev dMod : Sl → Sl → List MO → M Sl := gIntC cPos fun i j => .int (i % j)
abbrev dMul : Sl → Sl → List MO → M Sl := gIntC cMul fun i j => .int (i * j)
abbrev dPow : Sl → Sl → List MO → M Sl := gIntC cPow fun i j => .int (i ^ j.toNat)
abbrev dSub : Sl → Sl → List MO → M Sl := gInt fun i j => .int (i - j)
abbrev dGt : Sl → Sl → List MO → M Sl := gInt fun i j => .bl (decide (j < i))
abbrev dGe : Sl → Sl → List MO → M Sl := gInt fun i j => .bl (decide (j ≤ i))
structure DV (P : Program) (w : World) (K : PySem.W.Frag) (mg : Str → Option Value) (base : Heap) (x : Str) (k np : Nat) (vf : VF) where
  a : Addr
  fd : FuncData
  ps : List Str
  m : mg x = some (.ref a)
  kp : PySem.W.keepIn K (.ref a) = true
  g : FnOk P w K mg base (L2.CX P w) k a fd ps (SpV K np vf)
  b : Binds K fd ps []
structure Bn (mg : Str → Option Value) : Prop where
  int_ : mg "int" = none
  abs_ : mg "abs" = none
  len_ : mg "len" = none
  range_ : mg "range" = none
  list_ : mg "list" = none
  tuple_ : mg "tuple" = none
  str_ : mg "str" = none
  max_ : mg "max" = none
  min_ : mg "min" = none
  sorted_ : mg "sorted" = none
  enumerate_ : mg "enumerate" = none
  zip_ : mg "zip" = none
  isinstance_ : mg "isinstance" = none
  bool_ : mg "bool" = none
  any_ : mg "any" = none
  all_ : mg "all" = none
  sum_ : mg "sum" = none
end Vs
end
section
namespace Vs
open PySem PySem.Spec PyProof.Rows L2
variable [WW]
section
variable {K : PySem.W.Frag} {W : WX} {X : Cx} {a b : Expr} {rest : List Expr} {fa fb : VE} {pos : Pos}
def gAndV (fb : VE) (ρ : List (Option Sl)) (x : Sl) (m : List MO) : M Sl := match x with
  | .val (.bl true) => fb ⟨ρ, m⟩
  | .val (.bl false) => rM (.val (.bl false)) m
  | _ => none
def vAndV (fa fb : VE) : VE := fun s => bM (fa s) (gAndV fb s.ρ)
theorem pe_vandV (ha : PE X a (LE K W fa)) (hb : PE X (.BoolOp .And (b :: rest) pos) (LE K W fb)) : PE X (.BoolOp .And (a :: b :: rest) pos) (LE K W (vAndV fa fb)) := PE.imp (pe_and ha hb) fun σ H Q ⟨F, A, ρ, m, w, g⟩ =>
  ⟨F, A, ρ, m, w, (Got.bind (R1 := rS K) g).mono fun x H1 ⟨F1, A1, m1, s, n1, w1, rx, q⟩ => by
    unfold gAndV at q
    split at q
    · cases rx
      exact ⟨true, rfl, by rw [if_pos rfl]; exact ⟨F1, A1, ρ, m1, w1, q⟩⟩
    · cases rx
      exact ⟨false, rfl, by rw [if_neg Bool.false_ne_true]; exact q.now w1 (.bl false)⟩
    · exact none_got q⟩
def gOrV (fb : VE) (ρ : List (Option Sl)) (x : Sl) (m : List MO) : M Sl := match x with
  | .val (.bl true) => rM (.val (.bl true)) m
  | .val (.bl false) => fb ⟨ρ, m⟩
  | _ => none
def vOrV (fa fb : VE) : VE := fun s => bM (fa s) (gOrV fb s.ρ)
theorem pe_vorV (ha : PE X a (LE K W fa)) (hb : PE X (.BoolOp .Or (b :: rest) pos) (LE K W fb)) : PE X (.BoolOp .Or (a :: b :: rest) pos) (LE K W (vOrV fa fb)) := PE.imp (pe_or ha hb) fun σ H Q ⟨F, A, ρ, m, w, g⟩ =>
  ⟨F, A, ρ, m, w, (Got.bind (R1 := rS K) g).mono fun x H1 ⟨F1, A1, m1, s, n1, w1, rx, q⟩ => by
    unfold gOrV at q
    split at q
    · cases rx
      exact ⟨true, rfl, by rw [if_pos rfl]; exact q.now w1 (.bl true)⟩
    · cases rx
      exact ⟨false, rfl, by rw [if_neg Bool.false_ne_true]; exact ⟨F1, A1, ρ, m1, w1, q⟩⟩
    · exact none_got q⟩
theorem pe_vone {op} (ha : PE X a (LE K W fa)) : PE X (.BoolOp op [a] pos) (LE K W fa) := pe_one ha
def gNotV (x : Sl) (m : List MO) : M Sl := match x with
  | .val (.bl c) => rM (.val (.bl (!c))) m
  | _ => none
def vNotV (fa : VE) : VE := fun s => bM (fa s) gNotV
theorem pe_vnotV (ha : PE X a (LE K W fa)) : PE X (.UnaryOp .Not a pos) (LE K W (vNotV fa)) := PE.imp (pe_not ha) fun σ H Q ⟨F, A, ρ, m, w, g⟩ =>
  ⟨F, A, ρ, m, w, (Got.bind (R1 := rS K) g).mono fun x H1 ⟨F1, A1, m1, s, n1, w1, rx, q⟩ => by
    unfold gNotV at q
    split at q
    · cases rx
      exact ⟨_, rfl, q.now w1 (.bl _)⟩
    · exact none_got q⟩
inductive Ty where
  | non | bl | int | str | lst | tup
  | cls (C : Addr)
def tyV : Ty → Value
  | .non => .type "NoneType"
  | .bl => .type "bool"
  | .int => .type "int"
  | .str => .type "str"
  | .lst => .type "list"
  | .tup => .type "tuple"
  | .cls C => .ref C
def tyS (s : Sl) (m : List MO) : Option Ty := match s with
  | .val .non => some .non
  | .val (.bl _) => some .bl
  | .val (.int _) => some .int
  | .val (.str _) => some .str
  | .val (.lst _) => some .lst
  | .val (.seq _) => some .lst
  | .val (.tup _) => some .tup
  | .val (.ins C _) => some (.cls C)
  | .own i => match m[i]? with
    | some (.lst _) => some .lst
    | some (.ins C _) => some (.cls C)
    | _ => none
  | _ => none
def InsTy (K : PySem.W.Frag) (C : Addr) : Prop := ∀ (H : Hp) (a dx : Addr) (fs : List (Str × V)), H a = some (.ins C dx fs) → TyX K H (.ref a) (.ref C)
structure IsT (K : PySem.W.Frag) (us : List Value) (tab : Ty → Option Bool) : Prop where
  ans : ∀ y b, tab y = some b → PySem.W.kitAny K (tyV y) us = some b
  ins : ∀ C b, tab (.cls C) = some b → InsTy K C
theorem sqt_ty {H : Hp} {a : Addr} {xs : List V} (h : SqT K H a xs) : TyX K H (.ref a) (.type "tuple") := by
  rcases h with (h | ⟨o, h⟩) | ⟨its, h⟩
  · exact .base (.tup h)
  · exact .fTuple h
  · obtain ⟨_, o, e, c, _⟩ := h
    exact .kTuple e c
theorem sql_ty {H : Hp} {a : Addr} {xs : List V} (h : SqL K H a xs) : TyX K H (.ref a) (.type "list") := by
  rcases h with (h | ⟨o, h⟩) | ⟨its, h⟩
  · exact .base (.lst h)
  · exact .base (.frz h)
  · obtain ⟨_, o, e, c, _⟩ := h
    exact .kList e c
theorem tyS_at {F : Hp} {A : List Addr} {m : List MO} {H : Hp} {s : Sl} {x : V} {y : Ty} (o : Objs K F A m H) (r : RpS K F A x s) (e : tyS s m = some y) (hi : ∀ C, y = .cls C → InsTy K C) : TyX K H x (tyV y) := by
  unfold tyS at e
  split at e
  · cases e; cases r; exact .base .non
  · cases e; cases r; exact .base (.bl _)
  · cases e; cases r; exact .base (.int _)
  · cases e; cases r; exact .base (.str _)
  · cases e
    cases r with
    | lst h q => exact .base (.lst (o.sub _ _ h))
  · cases e
    cases r with
    | seq h q => exact sql_ty (o.sub.seq h)
  · cases e
    cases r with
    | tup h q => exact sqt_ty (sqT_same o.sub h.1)
  · cases e
    cases r with
    | ins h q => exact hi _ rfl _ _ _ _ (o.sub _ _ h)
  · split at e
    · rename_i i _ _ em
      cases e
      obtain ⟨a, ea, rfl⟩ := r
      obtain ⟨_, xs, h1, h2⟩ := o.obj i a _ ea em
      exact .base (.lst h1)
    · rename_i i _ C _ em
      cases e
      obtain ⟨a, ea, rfl⟩ := r
      obtain ⟨_, dx, vs, h1, h2⟩ := o.obj i a _ ea em
      exact hi _ rfl _ _ _ _ h1
    · cases e
  · cases e
def gIsi (tab : Ty → Option Bool) (s : Sl) (m : List MO) : M Sl := match tyS s m with
  | some y => match tab y with
    | some b => rM (.val (.bl b)) m
    | none => none
  | none => none
def vIsi (tab : Ty → Option Bool) (f : VE) : VE := fun s => bM (f s) (gIsi tab)
theorem isi_go {us : List Value} {tab : Ty → Option Bool} {F : Hp} {A : List Addr} {ρ : List (Option Sl)} {m : List MO} {σ : L2.St} {H : Hp} {x : V} {s : Sl} {Q : VK} (hT : IsT K us tab) (w : Wd K F A ρ m σ H) (rx : RpS K F A x s) (g : Got K W σ ρ F A H (rS K) (gIsi tab s m) Q) :
    ∃ t b, TyX K H x t ∧ PySem.W.kitAny K t us = some b ∧ Got K W σ ρ F A H (rS K) (rM (.val (.bl b)) m) Q := by
  unfold gIsi at g
  split at g
  · rename_i y ey
    split at g
    · rename_i b eb
      exact ⟨tyV y, b, tyS_at w.os rx ey (fun C e => hT.ins C b (by rw [← e]; exact eb)), hT.ans y b eb, g⟩
    · exact none_got g
  · exact none_got g
theorem pe_visi {c : Str} {p p2 pos : Pos} {e : Expr} {f : VE} {v : V} {u : Value} (tab : Ty → Option Bool) (hT : IsT X.K [u] tab) (hg : Gl X "isinstance") (hm : X.mg "isinstance" = none) (he : PE X e (LE X.K W f)) (hc : PE X (.Name c p2) (tC v)) (k : ClsV v u)
    (hs1 : starEach [e, .Name c p2] X.env = (false, eval e X.env) :: starEach [.Name c p2] X.env := by rfl) (hpl : (backTo pos (starEach [.Name c p2] X.env)).any (·.1) = false := by rfl) (hs2 : starEach [.Name c p2] X.env = (false, eval (.Name c p2) X.env) :: starEach [] X.env := by rfl) :
    PE X (.Call (.Name "isinstance" p) [e, .Name c p2] [] pos) (LE X.K W (vIsi tab f)) := PE.imp (pe_callB call_isi hg hm (by decide +kernel) (pa_cons he (pa_cons hc pa_nil hs2) hs1) (by decide) (by decide) hs1 hpl) fun σ H Q ⟨F, A, ρ, m, w, g⟩ =>
  ⟨F, A, ρ, m, w, (Got.bind (R1 := rS X.K) g).mono fun x H1 ⟨F1, A1, m1, s, n1, w1, rx, q⟩ => by
    obtain ⟨t, b, h1, h2, h3⟩ := isi_go hT w1 rx q
    refine ⟨x, v, t, u, b, rfl, k, h1, ?_, h3.now w1 (.bl b)⟩
    unfold PySem.W.kitAny at h2
    split at h2
    · rename_i e1; rw [← h2]; exact e1
    · rename_i e1; rw [e1, ← h2]; rfl
    · cases h2⟩
end
end Vs
end
section
namespace Vs
open PySem PySem.Spec PyProof.Rows L2
variable [WW]
def spE1 (K : PySem.W.Frag) (C : Addr) (fld : Str) : Sp := fun vs H Q _ => ∃ (a : Addr) (v : V), vs = [.ref a, v] ∧ OexC K C ∧ PySem.W.findIn K (.ref C) fld = some none ∧ H a = some (exo a C none) ∧
  ∀ dx, H dx = none → dx ≠ a → Q .non (upd (upd H dx (exd dx [(fld, v)])) a (exo a C (some dx)))
structure EV (P : Program) (w : World) (K : PySem.W.Frag) (mg : Str → Option Value) (base : Heap) (x fld : Str) (C : Addr) where
  fI : Addr
  fd : FuncData
  ps : List Str
  ox : OexC K C
  iC : PySem.W.findIn K (.ref C) "__init__" = some (some (.ref fI))
  tI : PySem.W.typeIn K (.ref fI) = some (.type "function")
  g : FnOk P w K mg base (fun _ _ _ _ _ _ => False) 1 fI fd ps (spE1 K C fld)
  b : Binds K fd ps []
  m : mg x = some (.ref C)
  no : PySem.W.findIn K (.ref C) fld = some none
section
variable {P : Program} {w : World} {K : PySem.W.Frag} {mg : Str → Option Value} {base : Heap}
end
section
variable {K : PySem.W.Frag} {W : WX} {X : Cx}
end
end Vs
end
section
namespace Vs
open PySem PySem.Spec PyProof.Rows L2
variable [WW]
section
variable {K : PySem.W.Frag} {W : WX} {X : Cx}
def strOf (r : M Sl) : M Sl := match r with
  | some (.ok (.val (.str y)), m) => rM (.val (.str y)) m
  | _ => none
def blOf (f : Bool → Bool) (r : M Sl) : M Sl := match r with
  | some (.ok (.val (.bl y)), m) => rM (.val (.bl (f y))) m
  | _ => none
theorem got_str {σ : L2.St} {ρ : List (Option Sl)} {F : Hp} {A : List Addr} {H : Hp} {r : M Sl} {Q : VK} (g : Got K W σ ρ F A H (rS K) (strOf r) Q) : Got K W0 σ ρ F A H (rS K) r fun z H' => ∃ y, z = .str y ∧ Q z H' := by
  unfold strOf at g
  split at g
  · exact ⟨_, _, rfl, fun F' A' b H' n w' rr => by cases rr; exact ⟨_, rfl, g.fin n w' (.str _)⟩⟩
  · exact none_got g
theorem got_bl {f : Bool → Bool} {σ : L2.St} {ρ : List (Option Sl)} {F : Hp} {A : List Addr} {H : Hp} {r : M Sl} {Q : VK} (g : Got K W σ ρ F A H (rS K) (blOf f r) Q) : Got K W0 σ ρ F A H (rS K) r fun z H' => ∃ y, z = .bl y ∧ Q (.bl (f y)) H' := by
  unfold blOf at g
  split at g
  · exact ⟨_, _, rfl, fun F' A' b H' n w' rr => by cases rr; exact ⟨_, rfl, g.fin n w' (.bl _)⟩⟩
  · exact none_got g
abbrev spR (K : PySem.W.Frag) (np : Nat) (vf : VF) : Sp := fun vs H Q E => SpV K np vf (vs ++ []) H Q E
def gStrO (ok : Addr → Bool) (vf : VF) : List Sl → List MO → M Sl
  | [s], m => match insOf s m with
    | some (C, _) => if ok C = true then strOf (callM vf [s] m) else none
    | none => none
  | _, _ => none
theorem cv_strO {gs : Addr} {ok : Addr → Bool} {vf : VF} (hok : ∀ C, ok C = true → ∃ ge, Own.OwnC K C gs ge) : CallV K (Own.rStrOwn K gs (spR K 1 vf) E0) (gStrO ok vf) := by
  intro W F A ρ m σ H xs ss Q w rs g
  unfold gStrO at g
  split at g
  · rename_i s
    split at g
    · rename_i C ns e
      split at g
      · rename_i hc
        obtain ⟨x, rfl, rx⟩ := rpSs1 rs
        obtain ⟨a, dx, vs, rfl, ea, _⟩ := insOf_at w.os rx e
        obtain ⟨ge, oc⟩ := hok C hc
        exact ⟨a, C, dx, vs, ge, rfl, ea, oc, call_got (W := W0) rfl w (.cons rx .nil) (got_str g)⟩
      · exact none_got g
    · exact none_got g
  · exact none_got g
def EqOk (K : PySem.W.Frag) (ge : Addr) (ok : Addr → Ty → Bool) : Prop := ∀ C y, ok C y = true → (∃ gs, Own.OwnC K C gs ge) ∧ PySem.W.notFirst K C (tyV y) = true ∧ ∀ D, y = .cls D → InsTy K D
def gEqO (ok : Addr → Ty → Bool) (vf : VF) (f : Bool → Bool) (a b : Sl) (m : List MO) : M Sl := match insOf a m, tyS b m with
  | some (C, _), some y => if ok C y = true then blOf f (callM vf [a, b] m) else none
  | _, _ => none
theorem ov_eqO {ge : Addr} {ok : Addr → Ty → Bool} {vf : VF} {f : Bool → Bool} (hok : EqOk K ge ok) : OpV K (Own.rEqOwn K ge (spR K 2 vf) E0 f) (gEqO ok vf f) := by
  intro W F A ρ m σ H x y a b Q w ra rb g
  unfold gEqO at g
  split at g
  · rename_i C ns t e1 e2
    split at g
    · rename_i hc
      obtain ⟨ad, dx, vs, rfl, ea, _⟩ := insOf_at w.os ra e1
      obtain ⟨⟨gs, oc⟩, hn, hi⟩ := hok C t hc
      exact ⟨ad, C, dx, vs, gs, tyV t, rfl, ea, oc, tyS_at w.os rb e2 hi, hn, call_got (W := W0) rfl w (.cons ra (.cons rb .nil)) (got_bl g)⟩
    · exact none_got g
  · exact none_got g
section
variable {n : Nat} {gs ge : Addr} {fd : FuncData} {ps : List Str} {vf : VF} {a b : Expr} {fa fb : VE} {pos : Pos}
theorem pe_vstrO {f : VA} {e : Expr} {es : List Expr} {x : Str} {p : Pos} {ok : Addr → Bool} (F : FnOk X.prog X.w X.K X.mg X.base (L2.CX X.prog X.w) n gs fd ps (SpV X.K 1 vf)) (hb : Binds X.K fd ps []) (hok : ∀ C, ok C = true → ∃ ge, Own.OwnC X.K C gs ge) (hr : Room (n + 2) X.A) (hg : Gl X x) (hm : X.mg x = none) (hv : bootBuiltins x = some (.type "str")) (ha : PA X (e :: es) (LA X.K W f)) (hn : x ≠ "__name__" := by decide) (hdb : (x == ("__debug__" : Str)) = false := by decide)
    (he : starEach (e :: es) X.env = (false, eval e X.env) :: starEach es X.env := by rfl) (hpl : (backTo pos (starEach es X.env)).any (·.1) = false := by rfl) : PE X (.Call (.Name x p) (e :: es) [] pos) (LE X.K W (vB (gStrO ok vf) f)) :=
  pe_vcallTy (cv_strO hok) (Own.call_strOwn (F.raw hb .nil) hr passL) hg hm hv ha hn hdb he hpl
theorem pt_vneO {ok : Addr → Ty → Bool} (F : FnOk X.prog X.w X.K X.mg X.base (L2.CX X.prog X.w) n ge fd ps (SpV X.K 2 vf)) (hb : Binds X.K fd ps []) (hok : EqOk X.K ge ok) (hr : Room (n + 1) X.A) (ha : PE X a (LE X.K W fa)) (hb' : PE X b (LE X.K W fb)) : PT X (.Compare a [.NotEq] [b] pos) (LT X.K W (vTest (vBin (gEqO ok vf not) fa fb))) :=
  pt_vcmp (Own.op_neOwn (F.raw hb .nil) hr passL) (ov_eqO hok) ha hb' (nobehind _ (by decide) (by decide))
end
end
end Vs
end
section
namespace Vs
open PySem PySem.Spec PyProof.Rows L2
variable [WW]
section
variable {K : PySem.W.Frag} {W : WX} {X : Cx}
def vCollK (g : VG) (tt : VT) (te : VE) (ρ : List (Option Sl)) : List T → List MO → List T → (List MO → List T → M (List T)) → M (List T)
  | [], m, acc, k => k m acc
  | t :: r, m, acc, k => match g t ρ with
    | none => none
    | some ρ1 => match tt ⟨ρ1, m⟩ with
      | some (.ok true, m1) => match te ⟨ρ1, m1⟩ with
        | some (.ok (.val u), m2) => if acc.length < SZ then vCollK g tt te ρ r m2 (acc ++ [u]) k else none
        | _ => none
      | some (.ok false, m1) => vCollK g tt te ρ r m1 acc k
      | _ => none
def vColl2 (g : VG) (tt : VT) (it1 : VI) (g1 : VG) (tt1 : VT) (te : VE) (vs1 : List Nat) (ρ : List (Option Sl)) : List T → List MO → List T → M (List T)
  | [], m, acc => rM acc m
  | t :: r, m, acc => match g t ρ with
    | none => none
    | some ρ1 => match tt ⟨ρ1, m⟩ with
      | some (.ok true, m1) => match it1 ⟨ρ1, m1⟩ with
        | some (.ok us, m2) => vCollK g1 tt1 te (wipeS ρ1 vs1) us m2 acc fun m3 acc3 => vColl2 g tt it1 g1 tt1 te vs1 ρ r m3 acc3
        | _ => none
      | some (.ok false, m1) => vColl2 g tt it1 g1 tt1 te vs1 ρ r m1 acc
      | _ => none
def vComp2 (vs vs1 : List Nat) (it : VI) (g : VG) (tt : VT) (it1 : VI) (g1 : VG) (tt1 : VT) (te : VE) : VN := fun s => bM (it s) fun ts m => vColl2 g tt it1 g1 tt1 te vs1 (wipeS s.ρ vs) ts m []
theorem offD {Fa Fb : Hp} {Aa Ab : List Addr} {Ha Hb : Hp} {D : Addr} {xs : List V} (n : Nxt Fa Aa Ha Fb Ab Hb) (f : Fa D = none) (a : D ∉ Aa) (h : Ha D = some (.lst xs)) : Fb D = none ∧ D ∉ Ab ∧ Hb D = some (.lst xs) := by
  refine ⟨?_, fun z => ?_, n.keep D _ h a⟩
  · cases q : Fb D with
    | none => rfl
    | some u =>
      rcases n.fresh D u q with y | y | y
      · rw [f] at y; cases y
      · rw [h] at y; cases y
      · exact absurd y a
  · rcases n.news D z with y | y
    · exact a y
    · rw [h] at y; cases y
def Mid (K : PySem.W.Frag) (σ : L2.St) (ρ : List (Option Sl)) (F : Hp) (A : List Addr) (H : Hp) (F1 : Hp) (A1 : List Addr) (H1 : Hp) (D : Addr) (Φ : Hp → List Addr → List MO → List T → Prop) (G : Hp) : Prop :=
  ∃ F' A' m' acc xs, Nxt F A H F' A' G ∧ Nxt F1 A1 H1 F' A' G ∧ F' D = none ∧ D ∉ A' ∧ Wd K F' A' ρ m' σ G ∧ G D = some (.lst xs) ∧ RpL K F' xs acc ∧ acc.length ≤ SZ ∧ Φ F' A' m' acc
theorem le_comp2 {vs vs1 L L1 : List Nat} (hL : ∀ i ∈ L, i ∈ vs) (hL1 : ∀ i ∈ L1, i ∈ vs1) {it it1 : VI} {g g1 : VG} {tt tt1 : VT} {te : VE} {σ : L2.St} {H : Hp} {Q : VK} (h : LN K W (vComp2 vs vs1 it g tt it1 g1 tt1 te) σ H Q) :
    tLc2 (LI K W it) (LG K L g) (LT K W0 tt) (LI K W0 it1) (LG K L1 g1) (LT K W0 tt1) (LE K W0 te) vs vs1 σ H Q := by
  obtain ⟨F, A, ρ, m, w, got⟩ := h
  refine ⟨F, A, ρ, m, w, ?_⟩
  unfold vComp2 at got
  match e : it ⟨ρ, m⟩, got with
  | none, got => exact none_got (show Got K W σ ρ F A H _ none Q from got)
  | some (.ex C fs, m1), got =>
    obtain ⟨_, _, z, got⟩ := got
    cases z
    exact ⟨_, _, rfl, got⟩
  | some (.ok ts, m1), got =>
  have got : Got K W σ ρ F A H (relN K H) (vColl2 g tt it1 g1 tt1 te vs1 (wipeS ρ vs) ts m1 []) Q := got
  refine ⟨_, _, rfl, fun F1 A1 J H1 n1 w1 wk D hD => ?_⟩
  have hD0 : H D = none := n1.back w1.os hD
  refine ⟨fun i k G => Mid K σ ρ F A H F1 A1 H1 D (fun _ _ m' acc => i ≤ ts.length ∧ k = ts.length - i ∧ Got K W σ ρ F A H (relN K H) (vColl2 g tt it1 g1 tt1 te vs1 (wipeS ρ vs) (ts.drop i) m' acc) Q) G,
    ⟨ts.length, F1, A1, m1, [], [], n1.offD hD0, Nxt.offD Nxt.refl hD, w1.os.fnone hD, w1.os.notin hD, w1.of (Same.refl _) (List.prefix_refl _) (w1.os.keep hD), upd_same, .nil, Nat.zero_le _, Nat.zero_le _, rfl, got⟩, ?_⟩
  rintro i k G ⟨F', A', m', acc, xs, n', n1', fD, nD, w', eD, racc, hacc, hi, rfl, q'⟩
  have wk' := wk F' A' G m' n1'.sub w'.os i
  by_cases e : i < ts.length
  · have et : ts[i]? = some ts[i] := List.getElem?_eq_getElem e
    have ed : ts.drop i = ts[i] :: ts.drop (i + 1) := List.drop_eq_getElem_cons e
    obtain ⟨go, yl⟩ := wk'.1 _ et
    refine .inr ⟨go, Mid K σ ρ F A H F1 A1 H1 D fun _ _ m' acc => Got K W σ ρ F A H (relN K H) (vColl2 g tt it1 g1 tt1 te vs1 (wipeS ρ vs) (ts.drop (i + 1)) m' acc) Q,
      fun G2 ⟨F2, A2, m2, acc2, xs2, z1, z2, z3, z4, z5, z6, z7, z8, z9⟩ => ⟨ts.length - (i + 1), by omega, F2, A2, m2, acc2, xs2, z1, z2, z3, z4, z5, z6, z7, z8, e, rfl, z9⟩, fun x G3 y => ?_⟩
    obtain ⟨F3, n3, o3, rx⟩ := yl x G3 y
    rw [ed] at q'
    unfold vColl2 at q'
    have w3 : Wd K F3 A' ρ m' σ G3 := w'.of n3.sub (List.prefix_refl _) o3
    obtain ⟨fD3, nD3, eD3⟩ := offD n3 fD nD eD
    match eg : g ts[i] (wipeS ρ vs), q' with
    | none, q' => simp only [eg] at q'; exact none_got q'
    | some ρ1, q' =>
      simp only [eg] at q'
      refine ⟨F3, A', _, m', _, ρ1, wd_wipe w3 vs, rx, eg, fun σ2 w4 sam => ⟨wipe_sam hL sam, F3, A', ρ1, m', w4, ?_⟩⟩
      match eb : tt ⟨ρ1, m'⟩, q' with
      | none, q' => simp only [eb] at q'; exact none_got q'
      | some (.ex C fs, m2), q' => simp only [eb] at q'; exact none_got q'
      | some (.ok false, m2), q' =>
        simp only [eb] at q'
        refine ⟨_, _, rfl, fun F4 A4 b H4 n4 w5 rb => ?_⟩
        cases rb
        obtain ⟨fD4, nD4, eD4⟩ := offD n4 fD3 nD3 eD3
        rw [if_neg Bool.false_ne_true]
        have n34 := n3.trans n4
        exact ⟨F4, A4, m2, acc, xs, n'.trans n34, n1'.trans n34, fD4, nD4, w'.of n34.sub n34.pre w5.os, eD4, racc.same n34.sub, hacc, q'⟩
      | some (.ok true, m2), q' =>
        simp only [eb] at q'
        refine ⟨_, _, rfl, fun F4 A4 b H4 n4 w5 rb => ?_⟩
        cases rb
        obtain ⟨fD4, nD4, eD4⟩ := offD n4 fD3 nD3 eD3
        rw [if_pos rfl]
        refine ⟨F4, A4, ρ1, m2, w5, ?_⟩
        match ei1 : it1 ⟨ρ1, m2⟩, q' with
        | none, q' => simp only [ei1] at q'; exact none_got q'
        | some (.ex C fs, m3), q' => simp only [ei1] at q'; exact none_got q'
        | some (.ok us, m3), q' =>
          simp only [ei1] at q'
          refine ⟨_, _, rfl, fun Fb Ab J1 Hb nb wb wk1 => ?_⟩
          obtain ⟨fDb, nDb, eDb⟩ := offD nb fD4 nD4 eD4
          have n3b := (n3.trans n4).trans nb
          refine ⟨fun j k G => Mid K σ ρ F A H F1 A1 H1 D (fun F' A' m' acc => Same Fb F' ∧ Wd K F' A' ρ1 m' σ2 G ∧ j ≤ us.length ∧ k = us.length - j ∧ Got K W σ ρ F A H (relN K H) (vCollK g1 tt1 te (wipeS ρ1 vs1) (us.drop j) m' acc fun m3 acc3 => vColl2 g tt it1 g1 tt1 te vs1 (wipeS ρ vs) (ts.drop (i + 1)) m3 acc3) Q) G,
            ⟨us.length, Fb, Ab, m3, acc, xs, n'.trans n3b, n1'.trans n3b, fDb, nDb, w'.of n3b.sub n3b.pre wb.os, eDb, racc.same n3b.sub, hacc, Same.refl _, wb, Nat.zero_le _, rfl, q'⟩, ?_⟩
          rintro j k G5 ⟨F5, A5, m5, acc5, xs5, k1, k2, k3, k4, k5, k6, k7, k8, k9, k10, hj, rfl, q5⟩
          have wk5 := wk1 F5 A5 G5 m5 k9 k5.os j
          by_cases e5 : j < us.length
          · have et5 : us[j]? = some us[j] := List.getElem?_eq_getElem e5
            have ed5 : us.drop j = us[j] :: us.drop (j + 1) := List.drop_eq_getElem_cons e5
            obtain ⟨go5, yl5⟩ := wk5.1 _ et5
            refine .inr ⟨go5, fun G => Mid K σ ρ F A H F1 A1 H1 D (fun F' A' m' acc => Same Fb F' ∧ Wd K F' A' ρ1 m' σ2 G ∧ Got K W σ ρ F A H (relN K H) (vCollK g1 tt1 te (wipeS ρ1 vs1) (us.drop (j + 1)) m' acc fun m3 acc3 => vColl2 g tt it1 g1 tt1 te vs1 (wipeS ρ vs) (ts.drop (i + 1)) m3 acc3) Q) G,
              fun G2 ⟨F2, A2, m2, acc2, xs2, z1, z2, z3, z4, z5, z6, z7, z8, z9, z10, z11⟩ => ⟨us.length - (j + 1), by omega, F2, A2, m2, acc2, xs2, z1, z2, z3, z4, z5, z6, z7, z8, z9, z10, e5, rfl, z11⟩, fun x6 G6 y6 => ?_⟩
            obtain ⟨F6, n6, o6, rx6⟩ := yl5 x6 G6 y6
            rw [ed5] at q5
            unfold vCollK at q5
            obtain ⟨fD6, nD6, eD6⟩ := offD n6 k3 k4 k6
            have w6 : Wd K F6 A5 ρ1 m5 σ2 G6 := k10.of n6.sub (List.prefix_refl _) o6
            match eg6 : g1 us[j] (wipeS ρ1 vs1), q5 with
            | none, q5 => simp only [eg6] at q5; exact none_got q5
            | some ρ2, q5 =>
              simp only [eg6] at q5
              refine ⟨F6, A5, _, m5, _, ρ2, wd_wipe w6 vs1, rx6, eg6, fun σ3 w7 sam7 => ⟨wipe_sam hL1 sam7, F6, A5, ρ2, m5, w7, ?_⟩⟩
              match eb7 : tt1 ⟨ρ2, m5⟩, q5 with
              | none, q5 => simp only [eb7] at q5; exact none_got q5
              | some (.ex C fs, m8), q5 => simp only [eb7] at q5; exact none_got q5
              | some (.ok false, m8), q5 =>
                simp only [eb7] at q5
                refine ⟨_, _, rfl, fun F8 A8 b H8 n8 w8 rb => ?_⟩
                cases rb
                obtain ⟨fD8, nD8, eD8⟩ := offD n8 fD6 nD6 eD6
                rw [if_neg Bool.false_ne_true]
                have n68 := n6.trans n8
                exact ⟨F8, A8, m8, acc5, xs5, k1.trans n68, k2.trans n68, fD8, nD8, k5.of n68.sub n68.pre w8.os, eD8, k7.same n68.sub, k8, k9.trans n68.sub, k10.of n68.sub n68.pre w8.os, q5⟩
              | some (.ok true, m8), q5 =>
                simp only [eb7] at q5
                refine ⟨_, _, rfl, fun F8 A8 b H8 n8 w8 rb => ?_⟩
                cases rb
                obtain ⟨fD8, nD8, eD8⟩ := offD n8 fD6 nD6 eD6
                rw [if_pos rfl]
                refine ⟨F8, A8, ρ2, m8, w8, ?_⟩
                match ee : te ⟨ρ2, m8⟩, q5 with
                | none, q5 => simp only [ee] at q5; exact none_got q5
                | some (.ex C fs, m9), q5 => simp only [ee] at q5; exact none_got q5
                | some (.ok (.own p), m9), q5 => simp only [ee] at q5; exact none_got q5
                | some (.ok (.val u), m9), q5 =>
                  simp only [ee] at q5
                  split at q5
                  · rename_i hz
                    refine ⟨_, _, rfl, fun F9 A9 y9 H9 n9 w9 ry => ?_⟩
                    obtain ⟨fD9, nD9, eD9⟩ := offD n9 fD8 nD8 eD8
                    have n69 := (n6.trans n8).trans n9
                    refine ⟨xs5, eD9, by rw [k7.length]; exact sz_lt hz, F9, A9, m9, acc5 ++ [u], xs5 ++ [y9], (k1.trans n69).offD hD0, (k2.trans n69).offD hD, fD9, nD9, k5.of n69.sub n69.pre (w9.os.off fD9 nD9 (notbl eD9)), upd_same, (k7.same n69.sub).append (.cons ry .nil), by rw [List.length_append]; exact hz, k9.trans n69.sub, k10.of n69.sub n69.pre (w9.os.off fD9 nD9 (notbl eD9)), q5⟩
                  · exact none_got q5
          · have ei : j = us.length := by omega
            refine .inl ⟨wk5.2 (by omega), ?_⟩
            rw [List.drop_eq_nil_of_le (by omega)] at q5
            exact ⟨F5, A5, m5, acc5, xs5, k1, k2, k3, k4, k5, k6, k7, k8, q5⟩
  · have ei : i = ts.length := by omega
    refine .inl ⟨wk'.2 (by omega), ?_⟩
    rw [List.drop_eq_nil_of_le (by omega)] at q'
    exact q'.fin n' w' ⟨⟨D, xs, rfl, fD, nD, eD, racc, hacc⟩, fun p ep => by cases ep; exact hD0⟩
theorem ps_vsetLc2 {i : Nat} {y : Str} {py : Pos} {elt tg iter tg1 iter1 : Expr} {ifs ifs1 : List Expr} {scope : Scope} (own : List (Str × Nat)) (vs1 : List Nat) {pos spos : Pos} {it it1 : VI} {L L1 : List Nat} {g g1 : VG} {tt tt1 : VT} {te : VE} (hL : ∀ i ∈ L, i ∈ own.map (·.2)) (hL1 : ∀ i ∈ L1, i ∈ vs1) (hv : ∀ i ∈ vs1, i ∈ own.map (·.2)) (hc : X.calm = true) (hN : X.N.Nodup) (hy : X.N[i]? = some y) (hyl : X.env.scope.names.lookup y = some .local)
    (hsw : swapsWith (.ListComp elt [⟨tg, iter, ifs, 0⟩, ⟨tg1, iter1, ifs1, 0⟩] scope pos) (some (.Name y py)) spos.line X.env = pure true) (hi : PI X tg iter (LI X.K W it)) (ok : BlkOk X.N X.env.scope scope own)
    (hg : ∀ (s : Shared) (H : Hp) (C : Addr) (cl : List (Str × Addr)) (fp : List Addr), PG (X.blk s H scope (compEnvC scope cl C X.env) fp) tg (LG X.K L g)) (ht : ∀ (s : Shared) (H : Hp) (C : Addr) (cl : List (Str × Addr)) (fp : List Addr), PTs (X.blk s H scope (compEnvC scope cl C X.env) fp) ifs (LT X.K W0 tt))
    (hi1 : ∀ (s : Shared) (H : Hp) (C : Addr) (cl : List (Str × Addr)) (fp : List Addr), PI (X.blk s H scope (compEnvC scope cl C X.env) fp) tg1 iter1 (LI X.K W0 it1))
    (hg1 : ∀ (s : Shared) (H : Hp) (C : Addr) (cl : List (Str × Addr)) (fp : List Addr), PG (X.blk s H scope (compEnvC scope cl C X.env) fp) tg1 (LG X.K L1 g1)) (ht1 : ∀ (s : Shared) (H : Hp) (C : Addr) (cl : List (Str × Addr)) (fp : List Addr), PTs (X.blk s H scope (compEnvC scope cl C X.env) fp) ifs1 (LT X.K W0 tt1))
    (he : ∀ (s : Shared) (H : Hp) (C : Addr) (cl : List (Str × Addr)) (fp : List Addr), PE (X.blk s H scope (compEnvC scope cl C X.env) fp) elt (LE X.K W0 te)) (hs : ∀ x, foldedSetIterable iter X.env x = pure x := by intro _; rfl) (hs1 : ∀ env x, foldedSetIterable iter1 env x = pure x := by intro _ _; rfl) :
    PS X (.Assign [.Name y py] (.ListComp elt [⟨tg, iter, ifs, 0⟩, ⟨tg1, iter1, ifs1, 0⟩] scope pos) spos) (LS X.K W (vSet i (vVal (vComp2 (own.map (·.2)) vs1 it g tt it1 g1 tt1 te)))) := PS.imp (ps_setLc2 hc hN hy hyl hsw hi ok hv hg ht hi1 hg1 ht1 he hs hs1) fun D σ H h => le_comp2 hL hL1 (le_val (ls_set h))
end
end Vs
end
section
namespace Vs
open PySem PySem.Spec PyProof.Rows L2
variable [WW]
section
variable {K : PySem.W.Frag} {W : WX} {X : Cx}
def tyTab (base : Ty → Bool) (ct : Addr → Option Bool) : Ty → Option Bool
  | .cls C => ct C
  | y => some (base y)
theorem kitAny1 {t c : Value} {b : Bool} (h : PySem.W.kitOne K t c = some b) : PySem.W.kitAny K t [c] = some b := by
  unfold PySem.W.kitAny
  rw [h]
  cases b <;> rfl
theorem kitAny2 {t c d : Value} {b1 b2 : Bool} (h1 : PySem.W.kitOne K t c = some b1) (h2 : PySem.W.kitOne K t d = some b2) : PySem.W.kitAny K t [c, d] = some (b1 || b2) := by
  unfold PySem.W.kitAny
  rw [h1]
  cases b1
  · exact kitAny1 h2
  · rfl
def CtOk (K : PySem.W.Frag) (u : Value) (ct : Addr → Option Bool) : Prop := ∀ C b, ct C = some b → PySem.W.kitOne K (.ref C) u = some b ∧ InsTy K C
def isIntB : Ty → Bool
  | .int => true
  | .bl => true
  | _ => false
def isBlB : Ty → Bool
  | .bl => true
  | _ => false
def isLstB : Ty → Bool
  | .lst => true
  | _ => false
def isTupB : Ty → Bool
  | .tup => true
  | _ => false
theorem isT1 {u : Value} {base : Ty → Bool} {ct : Addr → Option Bool} (h : ∀ y, (∀ C, y ≠ .cls C) → PySem.W.kitOne K (tyV y) u = some (base y)) (hc : CtOk K u ct) : IsT K [u] (tyTab base ct) := by
  refine ⟨fun y b e => kitAny1 ?_, fun C b e => (hc C b e).2⟩
  cases y with
  | cls C => exact (hc C b e).1
  | non => cases e; exact h .non (fun _ z => nomatch z)
  | bl => cases e; exact h .bl (fun _ z => nomatch z)
  | int => cases e; exact h .int (fun _ z => nomatch z)
  | str => cases e; exact h .str (fun _ z => nomatch z)
  | lst => cases e; exact h .lst (fun _ z => nomatch z)
  | tup => cases e; exact h .tup (fun _ z => nomatch z)
theorem kInt : ∀ y, (∀ C, y ≠ .cls C) → PySem.W.kitOne K (tyV y) (.type "int") = some (isIntB y)
  | .non, _ => kit_ty (by decide +kernel) | .bl, _ => kit_ty (by decide +kernel) | .int, _ => kit_ty (by decide +kernel) | .str, _ => kit_ty (by decide +kernel) | .lst, _ => kit_ty (by decide +kernel) | .tup, _ => kit_ty (by decide +kernel)
  | .cls C, h => absurd rfl (h C)
theorem kBl : ∀ y, (∀ C, y ≠ .cls C) → PySem.W.kitOne K (tyV y) (.type "bool") = some (isBlB y)
  | .non, _ => kit_ty (by decide +kernel) | .bl, _ => kit_ty (by decide +kernel) | .int, _ => kit_ty (by decide +kernel) | .str, _ => kit_ty (by decide +kernel) | .lst, _ => kit_ty (by decide +kernel) | .tup, _ => kit_ty (by decide +kernel)
  | .cls C, h => absurd rfl (h C)
theorem kLst : ∀ y, (∀ C, y ≠ .cls C) → PySem.W.kitOne K (tyV y) (.type "list") = some (isLstB y)
  | .non, _ => kit_ty (by decide +kernel) | .bl, _ => kit_ty (by decide +kernel) | .int, _ => kit_ty (by decide +kernel) | .str, _ => kit_ty (by decide +kernel) | .lst, _ => kit_ty (by decide +kernel) | .tup, _ => kit_ty (by decide +kernel)
  | .cls C, h => absurd rfl (h C)
theorem kTup : ∀ y, (∀ C, y ≠ .cls C) → PySem.W.kitOne K (tyV y) (.type "tuple") = some (isTupB y)
  | .non, _ => kit_ty (by decide +kernel) | .bl, _ => kit_ty (by decide +kernel) | .int, _ => kit_ty (by decide +kernel) | .str, _ => kit_ty (by decide +kernel) | .lst, _ => kit_ty (by decide +kernel) | .tup, _ => kit_ty (by decide +kernel)
  | .cls C, h => absurd rfl (h C)
def tab2 (a b : Ty → Option Bool) : Ty → Option Bool := fun y => match a y, b y with
    | some a, some b => some (a || b)
    | _, _ => none
theorem isT2 {u1 u2 : Value} {b1 b2 : Ty → Bool} {c1 c2 : Addr → Option Bool} (h1 : IsT K [u1] (tyTab b1 c1)) (h2 : IsT K [u2] (tyTab b2 c2)) : IsT K [u1, u2] (tab2 (tyTab b1 c1) (tyTab b2 c2)) := by
  have one : ∀ {t u : Value} {b : Bool}, PySem.W.kitAny K t [u] = some b → PySem.W.kitOne K t u = some b := fun {t u b} h => by
    unfold PySem.W.kitAny at h
    split at h
    · rename_i e; rw [e]; exact h
    · rename_i e; rw [e, ← h]; rfl
    · cases h
  refine ⟨fun y b e => ?_, fun C b e => ?_⟩
  · unfold tab2 at e
    split at e
    · rename_i a b' e1 e2
      cases e
      exact kitAny2 (one (h1.ans _ _ e1)) (one (h2.ans _ _ e2))
    · cases e
  · unfold tab2 at e
    split at e
    · rename_i a b' e1 e2
      exact h1.ins C a e1
    · cases e
theorem pe_visi2 {c c' : Str} {p p2 p3 p4 pos : Pos} {k : Nat} {e : Expr} {f : VE} {v v' : V} {u u' : Value} (tab : Ty → Option Bool) (hT : IsT X.K [u, u'] tab) (hg : Gl X "isinstance") (hm : X.mg "isinstance" = none) (he : PE X e (LE X.K W f)) (hc : PE X (.Name c p2) (tC v)) (hc' : PE X (.Name c' p3) (tC v')) (kk : ClsV v u) (kk' : ClsV v' u')
    (hs1 : starEach [e, .Tuple [.Name c p2, .Name c' p3] k p4] X.env = (false, eval e X.env) :: starEach [.Tuple [.Name c p2, .Name c' p3] k p4] X.env := by rfl) (hpl : (backTo pos (starEach [.Tuple [.Name c p2, .Name c' p3] k p4] X.env)).any (·.1) = false := by rfl) (hs2 : starEach [.Tuple [.Name c p2, .Name c' p3] k p4] X.env = (false, eval (.Tuple [.Name c p2, .Name c' p3] k p4) X.env) :: starEach [] X.env := by rfl)
    (hs3 : starEach [.Name c p2, .Name c' p3] X.env = (false, eval (.Name c p2) X.env) :: starEach [.Name c' p3] X.env := by rfl) (hs4 : starEach [.Name c' p3] X.env = (false, eval (.Name c' p3) X.env) :: starEach [] X.env := by rfl) :
    PE X (.Call (.Name "isinstance" p) [e, .Tuple [.Name c p2, .Name c' p3] k p4] [] pos) (LE X.K W (vIsi tab f)) := PE.imp (pe_callB call_isiT hg hm (by decide +kernel) (pa_cons he (pa_cons (pe_tup (pa_cons hc (pa_cons hc' pa_nil hs4) hs3)) pa_nil hs2) hs1) (by decide) (by decide) hs1 hpl) fun σ H Q ⟨F, A, ρ, m, w, g⟩ =>
  ⟨F, A, ρ, m, w, (Got.bind (R1 := rS X.K) g).mono fun x H1 ⟨F1, A1, m1, s, n1, w1, rx, q⟩ => by
    refine ⟨by show 2 ≤ sizeLine; decide, fun tp ntp => ?_⟩
    have w2 : Wd X.K F1 A1 ρ m1 σ (upd H1 tp (.tup [v, v'])) := w1.of (Same.refl _) (List.prefix_refl _) (w1.os.keep ntp)
    have n2 : Nxt F1 A1 H1 F1 A1 (upd H1 tp (.tup [v, v'])) := ⟨Same.refl _, List.prefix_refl _, fun _ _ e => .inl e, fun _ h => .inl h, fun a o e _ => .inr (by rw [upd_ne (ne_of_none e ntp)]; exact e)⟩
    obtain ⟨t, b, h1, h2, h3⟩ := isi_go hT w2 rx (q.later n2)
    exact ⟨x, tp, [v, v'], t, [u, u'], b, rfl, upd_same, .cons kk (.cons kk' .nil), h1, h2, h3.now w2 (.bl b)⟩⟩
end
end Vs
end
section
namespace Vs
open PySem PySem.Spec PyProof.Rows L2
variable [WW]
section
variable {K : PySem.W.Frag} {W : WX} {X : Cx}
def gChain (g1 g2 : Sl → Sl → List MO → M Sl) (fc : VE) (ρ : List (Option Sl)) (x y : Sl) (m : List MO) : M Sl := match g1 x y m with
  | some (.ok (.val (.bl true)), m3) => bM (fc ⟨ρ, m3⟩) fun z m4 => g2 y z m4
  | some (.ok (.val (.bl false)), m3) => rM (.val (.bl false)) m3
  | _ => none
def vChain (g1 g2 : Sl → Sl → List MO → M Sl) (fa fb fc : VE) : VE := fun s => bM (fa s) fun x m1 => bM (fb ⟨s.ρ, m1⟩) fun y m2 => gChain g1 g2 fc s.ρ x y m2
end
end Vs
namespace Vs
open PySem PySem.Spec PyProof.Rows L2
variable [WW]
def MVd (P : Program) (w : World) (K : PySem.W.Frag) (mg : Str → Option Value) (base : Heap) (kk : Nat) (m : Str) (np : Nat) (C : Addr) (vf : VF) : Prop := Cls K C ∧ ∃ (k : Nat) (g : Addr) (fd : FuncData) (ps : List Str), k ≤ kk ∧ Meth K C m g ∧ FnOk P w K mg base (L2.CX P w) k g fd ps (SpV K np vf) ∧ Binds K fd ps []
theorem MVd.mv {X : Cx} {kk : Nat} {m : Str} {np : Nat} {C : Addr} {vf : VF} (h : MVd X.prog X.w X.K X.mg X.base kk m np C vf) (hr : Room kk X.A) : MV X m np C vf :=
  let ⟨c, k, g, fd, ps, hk, hm, F, b⟩ := h
  ⟨c, k, g, fd, ps, hm, F, hr.mono hk, b⟩
structure DM (P : Program) (w : World) (K : PySem.W.Frag) (mg : Str → Option Value) (base : Heap) (k np : Nat) (vf : VF) where
  a : Addr
  fd : FuncData
  ps : List Str
  g : FnOk P w K mg base (L2.CX P w) k a fd ps (SpV K np vf)
  b : Binds K fd ps []
structure GV (K : PySem.W.Frag) (mg : Str → Option Value) (x : Str) (t : T) where
  v : V
  u : Value
  m : mg x = some u
  r : RelV v u
  rp : ∀ F, Rp K F v t
end Vs
end
section
namespace Vs
open PySem PySem.Spec PyProof.Rows L2
variable [WW]
section
variable {K : PySem.W.Frag} {W : WX} {X : Cx}
theorem RpSs.app {F : Hp} {A : List Addr} : ∀ {xs ys : List V} {as bs : List Sl}, RpSs K F A xs as → RpSs K F A ys bs → RpSs K F A (xs ++ ys) (as ++ bs)
  | _, _, _, _, .nil, h => h
  | _, _, _, _, .cons a r, h => .cons a (RpSs.app r h)
theorem RpSs.ofL {F : Hp} {A : List Addr} : ∀ {xs : List V} {ts : List T}, RpL K F xs ts → RpSs K F A xs (ts.map .val)
  | _, _, .nil => .nil
  | _, _, .cons a r => .cons a (RpSs.ofL r)
def vStar (f : VE) (g : VA) : VA := fun s => bM (f s) fun a m1 => match seqOf a m1 with
  | some ts => bM (g ⟨s.ρ, m1⟩) fun ss m2 => rM (ts.map .val ++ ss) m2
  | none => none
theorem pa_vstar {e : Expr} {es : List Expr} {f : VE} {g : VA} {p : Pos} (he : PE X e (LE X.K W f)) (hr : PA X es (LA X.K W g)) (hs : starEach (.Starred e p :: es) X.env = (true, eval e X.env) :: starEach es X.env := by rfl) : PA X (.Starred e p :: es) (LA X.K W (vStar f g)) := PA.imp (StX.pa_star he hr hs) fun σ H Q ⟨F, A, ρ, m, w, got⟩ =>
  ⟨F, A, ρ, m, w, (Got.bind (R1 := rS X.K) got).mono fun x H1 ⟨F1, A1, m1, a, n1, w1, ra, q⟩ => by
    split at q
    · rename_i ts e1
      obtain ⟨p, xs, rfl, h1, h2⟩ := seqOf_at2 w1.os ra e1
      refine ⟨p, xs, rfl, h1.elim .inr fun h => .inl (sqT_same w1.os.sub h.1), F1, A1, ρ, m1, w1, (Got.bind (R1 := fun F' A' _ vs ss => RpSs X.K F' A' vs ss) q).mono fun ys H2 ⟨F2, A2, m2, ss, n2, w2, rs, q2⟩ => q2.now w2 (RpSs.app (RpSs.ofL (h2.same n2.sub)) rs)⟩
    · exact none_got q⟩
def vMakeO (C : Addr) : VE := fun s => rM (.own s.m.length) (s.m ++ [.ins C []])
theorem pe_vmakeO {x : Str} {C : Addr} {p pos : Pos} (M : Own.MkO X.K C) (hg : Gl X x) (hm : X.mg x = some (.ref C)) (hdb : (x == ("__debug__" : Str)) = false := by decide) : PE X (.Call (.Name x p) [] [] pos) (LE X.K W (vMakeO C)) := PE.imp (Own.pe_makeO M hg hm hdb) fun σ H Q ⟨F, A, ρ, m, w, got⟩ => fun x dx nx nd ne => by
  have o1 : Objs X.K F A m (upd H dx (.own x)) := w.os.keep nd
  have n0 : Nxt F A H F A (upd H dx (.own x)) := ⟨Same.refl _, List.prefix_refl _, fun _ _ e => .inl e, fun _ h => .inl h, fun a o e _ => .inr (by rw [upd_ne (ne_of_none e nd)]; exact e)⟩
  have xA : x ∉ A := w.os.notin nx
  have fx : F x = none := w.os.fnone nx
  have o2 : Objs X.K F (A ++ [x]) (m ++ [.ins C []]) (upd (upd H dx (.own x)) x (.ins C dx [])) := (o1.over fx xA (notbl0 (by rw [upd_ne (Ne.symm ne)]; exact nx))).addO xA ⟨_, upd_same⟩ ⟨fx, dx, [], upd_same, .nil⟩
  exact got.fin (n0.addp nx) (w.of (Same.refl _) (List.prefix_append A [x]) o2) ⟨x, by rw [← w.os.len, List.getElem?_append_right (Nat.le_refl _), Nat.sub_self]; rfl, rfl⟩
structure MI (P : Program) (w : World) (K : PySem.W.Frag) (mg : Str → Option Value) (base : Heap) (k np : Nat) (x : Str) (C : Addr) (vf : VF) where
  f : Addr
  fd : FuncData
  ps : List Str
  mks : Mk K C f
  g : FnOk P w K mg base (L2.CX P w) k f fd ps (SpV K np vf)
  b : Binds K fd ps []
  m : mg x = some (.ref C)
end
end Vs
end
section
namespace Vs
open PySem PySem.Spec PyProof.Rows L2
variable [WW]
section
variable {W : WX} {X : Cx}
theorem pe_callS0 {k : Nat} {f : Addr} {fd : FuncData} {ps : List Str} {sp : Sp} {E : L2.St → XK} {x : Str} {p pos : Pos} (F : FnOk X.prog X.w X.K X.mg X.base (L2.CX X.prog X.w) k f fd ps sp) (hr : Room k X.A) (hg : Gl X x) (hm : X.mg x = some (.ref f)) (hk : PySem.W.keepIn X.K (.ref f) = true) (hb : Binds X.K fd ps []) (hx : ∀ σ, PassesAt (L2.CX X.prog X.w) X σ (E σ)) (hdb : (x == ("__debug__" : Str)) = false := by decide) :
    PE X (.Call (.Name x p) [] [] pos) (fun σ H Q => sp [] H Q (E σ)) := by
  refine ⟨fun pins s σ H Q I h => ?_⟩
  refine wpAny_Call_Name_kw (ld_glob I hg hm ?_ hdb)
  exact PySem.W.callWith_K0 I.kIn hk (run_fnS (us := []) F hr hb (hx σ) I .nil h)
theorem pe_vcall0 {k : Nat} {f : Addr} {fd : FuncData} {ps : List Str} {vf : VF} {x : Str} {p pos : Pos} (F : FnOk X.prog X.w X.K X.mg X.base (L2.CX X.prog X.w) k f fd ps (SpV X.K 0 vf)) (hr : Room k X.A) (hg : Gl X x) (hm : X.mg x = some (.ref f)) (hk : PySem.W.keepIn X.K (.ref f) = true) (hb : Binds X.K fd ps []) (tk : Takes X W) (hdb : (x == ("__debug__" : Str)) = false := by decide) :
    PE X (.Call (.Name x p) [] [] pos) (LE X.K W (vCall vf vNil)) := PE.imp (pe_callS0 F hr hg hm hk hb (fun σ => passAt tk σ) hdb) fun σ H Q ⟨F, A, ρ, m, w, g⟩ => call_got rfl w .nil g
structure CM (P : Program) (w : World) (K : PySem.W.Frag) (mg : Str → Option Value) (base : Heap) (k np : Nat) (m : Str) (C : Addr) (vf : VF) where
  mc : Value
  p : Addr
  a : Addr
  fd : FuncData
  ps : List Str
  rd : ClX.CRead K C mc
  mt : ClX.CMet K C mc m p a
  g : FnOk P w K mg base (L2.CX P w) k a fd ps (SpV K np vf)
  b : Binds K fd ps []
def vCMeth (C : Addr) (vf : VF) (fa : VA) : VE := fun s => bM (fa s) fun ss m => callM vf (.val (.cst (.ref C)) :: ss) m
theorem pe_vcmeth {np k : Nat} {C : Addr} {vf : VF} {fa : VA} {o e : Expr} {es : List Expr} {m : Str} {pos apos : Pos} {pl : Sem Bool} (D : CM X.prog X.w X.K X.mg X.base k np m C vf) (hO : PE X o (tC (.ref C))) (hr : Room k X.A) (tk : Takes X W) (ha : PA X (e :: es) (LA X.K W fa)) (hn : ∀ s ss m, fa s = some (.ok ss, m) → ss.length + 1 = np)
    (h1 : starEach (e :: es) X.env = (false, eval e X.env) :: starEach es X.env := by rfl) (h2 : (backTo pos (starEach es X.env)).any (·.1) = false := by rfl)
    (h3 : eval (.Call (.Attribute o m apos) (e :: es) [] pos) X.env = (do
      let it ← eval o X.env
      standAt apos.atName
      let (fn, ahead) ← holding [it] (getMethod it m pl)
      callWith pos fn ahead (backTo pos (starEach (e :: es) X.env)) (backToKw pos (keywordEach [] X.env))) := by rfl) : PE X (.Call (.Attribute o m apos) (e :: es) [] pos) (LE X.K W (vCMeth C vf fa)) := PE.imp (Own.pe_cmethS hO D.rd D.mt (D.g.raw D.b .nil) hr (fun σ => passAt tk σ) ha h1 h2 h3) fun σ H Q ⟨F, A, ρ, m0, w, g⟩ => by
  refine ⟨rfl, F, A, ρ, m0, w, ?_⟩
  match e2 : fa ⟨ρ, m0⟩, g with
  | none, g => unfold vCMeth at g; rw [e2] at g; exact none_got g
  | some (.ex D' fs, m1), g =>
    unfold vCMeth at g
    rw [e2] at g
    obtain ⟨_, _, z, g⟩ := g
    cases z
    exact ⟨_, _, rfl, g⟩
  | some (.ok ss, m1), g =>
    unfold vCMeth at g
    rw [e2] at g
    have hl := hn _ _ _ e2
    refine ⟨_, _, rfl, fun F1 A1 vs H1 n1 w1 rs => ?_⟩
    show SpV X.K np vf ((V.ref C :: vs) ++ []) H1 Q (WE W σ)
    rw [List.append_nil]
    exact call_got (by rw [List.length_cons, RpSs.length rs]; exact hl) w1 (.cons (show RpS X.K F1 A1 (.ref C) (.val (.cst (.ref C))) from .cst _) rs) (Got.later g n1)
structure MD (P : Program) (w : World) (K : PySem.W.Frag) (mg : Str → Option Value) (base : Heap) (k np : Nat) (C : Addr) (vf : VF) (dts : List T) where
  f : Addr
  fd : FuncData
  ps : List Str
  ds : List Value
  dvs : List V
  mks : Mk K C f
  g : FnOk P w K mg base (L2.CX P w) k f fd ps (SpV K np vf)
  b : Binds K fd ps ds
  hd : Vals dvs ds
  rd : ∀ F, RpL K F dvs dts
def vMakeD (C : Addr) (vf : VF) (dts : List T) (fa : VA) : VE := fun s => bM (fa s) fun ss m1 => bM (callM vf (.own m1.length :: (ss ++ dts.map .val)) (m1 ++ [.ins C []])) fun r m2 => match r with
  | .val .non => rM (.own m1.length) m2
  | _ => none
theorem le_makeD {P : Program} {w0 : World} {K : PySem.W.Frag} {mg : Str → Option Value} {base : Heap} {k np : Nat} {C : Addr} {vf : VF} {dts : List T} (D : MD P w0 K mg base k np C vf dts) {fa : VA} (hn : ∀ s ss m, fa s = some (.ok ss, m) → ss.length + dts.length + 1 = np) {σ : L2.St} {H : Hp} {Q : VK} (h : LE K W (vMakeD C vf dts fa) σ H Q) : Own.tMakeS C (SpV K np vf) D.dvs (WE W) (LA K W fa) σ H Q := by
  obtain ⟨F, A, ρ, m, w, g⟩ := h
  refine ⟨F, A, ρ, m, w, ?_⟩
  match e : fa ⟨ρ, m⟩, g with
  | none, g => unfold vMakeD at g; rw [e] at g; exact none_got g
  | some (.ex D' fs, m1), g =>
    unfold vMakeD at g
    rw [e] at g
    obtain ⟨_, _, z, g⟩ := g
    cases z
    exact ⟨_, _, rfl, g⟩
  | some (.ok ss, m1), g =>
    unfold vMakeD at g
    rw [e] at g
    have hl := hn _ _ _ e
    refine ⟨_, _, rfl, fun F1 A1 vs H1 n1 w1 rs x dx nx nd ne => ?_⟩
    exact make_go (by rw [List.length_append, RpSs.length rs, (D.rd F1).length]; exact hl) w1 (rs.app (RpSs.ofL (D.rd F1))) (Got.later g n1) x dx nx nd ne
theorem go0 {P : Program} {w0 : World} {K : PySem.W.Frag} {mg : Str → Option Value} {base : Heap} {k np : Nat} {C : Addr} {vf : VF} {dts : List T} (D : MD P w0 K mg base k np C vf dts) (hn : dts.length + 1 = np) {σ : L2.St} {H : Hp} {Q : VK} (h : LE K W (vMakeD C vf dts vNil) σ H Q) :
    ∀ x dx, H x = none → H dx = none → dx ≠ x → SpV K np vf (.ref x :: ([] ++ D.dvs)) (upd (upd H dx (.own x)) x (.ins C dx [])) (fun v H2 => v = .non ∧ Q (.ref x) H2) (WE W σ) := by
  obtain ⟨F, A, ρ, m, w, g⟩ := h
  intro x dx nx nd ne
  exact make_go (vs := [] ++ D.dvs) (ss := [] ++ dts.map .val) (by rw [List.nil_append, (D.rd F).length]; exact hn) w (RpSs.app .nil (RpSs.ofL (D.rd F))) g x dx nx nd ne
def vAtC (i : Nat) (C : Addr) (f : VE) : VE := fun s => match s.ρ[i]? with
  | some (some (.val (.cst (.ref D)))) => if D = C then f s else none
  | _ => none
theorem atC {K : PySem.W.Frag} {i : Nat} {C : Addr} {f : VE} {σ : L2.St} {H : Hp} {Q : VK} (h : LE K W (vAtC i C f) σ H Q) : σ[i]? = some (some (.ref C)) ∧ LE K W f σ H Q := by
  obtain ⟨F, A, ρ, m, w, g⟩ := h
  unfold vAtC at g
  split at g
  · rename_i D e
    split at g
    · rename_i ed
      subst ed
      obtain ⟨v, h1, h2⟩ := w.slot i _ e
      cases h2
      exact ⟨h1, F, A, ρ, m, w, g⟩
    · exact none_got g
  · exact none_got g
theorem pe_vmakeL {np k i : Nat} {C : Addr} {vf : VF} {dts : List T} {fa : VA} {x : Str} {e : Expr} {es : List Expr} {p pos : Pos} (D : MD X.prog X.w X.K X.mg X.base k np C vf dts) (hr : Room (k + 1) X.A) (hN : X.N[i]? = some x) (hv : Vis X.env.scope x) (tk : Takes X W)
    (ha : PA X (e :: es) (LA X.K W fa)) (hn : ∀ s ss m, fa s = some (.ok ss, m) → ss.length + dts.length + 1 = np) (hdb : (x == ("__debug__" : Str)) = false := by decide) (hcd : (x == ("__classdict__" : Str)) = false := by decide) (he : starEach (e :: es) X.env = (false, eval e X.env) :: starEach es X.env := by rfl) (hpl : (backTo pos (starEach es X.env)).any (·.1) = false := by rfl) :
    PE X (.Call (.Name x p) (e :: es) [] pos) (LE X.K W (vAtC i C (vMakeD C vf dts fa))) := ⟨fun pins s σ H Q I h => by
  obtain ⟨hs, ht⟩ := atC h
  refine wpAny_Call_Name_kw (thn ((pe_var (pos := p) hN hv hdb hcd).run pins s σ H (fun y H1 => y = .ref C ∧ H1 = H) I ⟨.ref C, hs, rfl, rfl⟩) fun u s1 w1 => ?_)
  obtain ⟨y, H1, J, ry, ey, eh⟩ := w1
  subst ey eh
  cases ry
  exact PySem.W.callWith_K (h₀ := X.base) J.ok.mod.kin D.mks.kp (thn (ha.run pos pins s1 σ _ _ J (le_makeD D hn ht)) fun us s2 ⟨vs, H2, J2, r, q⟩ => ⟨J2.kIn, Own.run_makeS (E := WE W) D.mks D.g hr D.b D.hd (passAt tk σ) J2 r q⟩) he hpl⟩
theorem pe_vmakeL0 {np k i : Nat} {C : Addr} {vf : VF} {dts : List T} {x : Str} {p pos : Pos} (D : MD X.prog X.w X.K X.mg X.base k np C vf dts) (hr : Room (k + 1) X.A) (hN : X.N[i]? = some x) (hv : Vis X.env.scope x) (tk : Takes X W) (hn : dts.length + 1 = np) (hdb : (x == ("__debug__" : Str)) = false := by decide) (hcd : (x == ("__classdict__" : Str)) = false := by decide) :
    PE X (.Call (.Name x p) [] [] pos) (LE X.K W (vAtC i C (vMakeD C vf dts vNil))) := ⟨fun pins s σ H Q I h => by
  obtain ⟨hs, ht⟩ := atC h
  refine wpAny_Call_Name_kw (thn ((pe_var (pos := p) hN hv hdb hcd).run pins s σ H (fun y H1 => y = .ref C ∧ H1 = H) I ⟨.ref C, hs, rfl, rfl⟩) fun u s1 w1 => ?_)
  obtain ⟨y, H1, J, ry, ey, eh⟩ := w1
  subst ey eh
  cases ry
  exact PySem.W.callWith_K0 J.kIn D.mks.kp (Own.run_makeS (us := []) (E := WE W) D.mks D.g hr D.b D.hd (passAt tk σ) J .nil (go0 D hn ht))⟩
abbrev rSplit : V → List V → Hp → VK → Prop := fun x xs H Q => ∃ a b, x = .str a ∧ xs = [.str b] ∧ (b.length == 0) = false ∧ a.length + 2 ≤ sizeLine ∧ rNewStrs (Txt.split a b) H Q
def gSplit (o a : Sl) (m : List MO) : M (List T) := match o, a with
  | .val (.str x), .val (.str y) => if (y.length == 0) = false ∧ x.length + 2 ≤ SZ ∧ (Txt.split x y).length ≤ SZ then rM ((Txt.split x y).map T.str) m else none
  | _, _ => none
theorem split_go {K : PySem.W.Frag} {F0 F : Hp} {A0 A : List Addr} {ρ : List (Option Sl)} {m : List MO} {σ : L2.St} {H0 H : Hp} {x y : V} {o a : Sl} {Q : VK} (n : Nxt F0 A0 H0 F A H) (w : Wd K F A ρ m σ H) (ro : RpS K F A x o) (ra : RpS K F A y a) (g : Got K W σ ρ F A H (relN K H0) (gSplit o a m) Q) : rSplit x [y] H Q := by
  unfold gSplit at g
  split at g
  · rename_i xs ys
    split at g
    · rename_i hc
      cases ro
      cases ra
      exact ⟨xs, ys, rfl, rfl, hc.1, sz_le hc.2.1, fun p np => new_list n g w np rp_strs (by rw [List.length_map]; exact hc.2.2)⟩
    · exact none_got g
  · exact none_got g
def vSplit (fo fe : VE) : VN := fun s => bM (fo s) fun o m1 => if isStr o = true then bM (fe ⟨s.ρ, m1⟩) fun a m2 => gSplit o a m2 else none
theorem isStr_at {K : PySem.W.Frag} {F : Hp} {A : List Addr} {x : V} {o : Sl} (e : isStr o = true) (r : RpS K F A x o) : ∃ a, x = .str a := by
  unfold isStr at e
  split at e
  · cases r; exact ⟨_, rfl⟩
  · cases e
theorem pe_vsplit {o e : Expr} {fo fe : VE} {apos pos : Pos} (ho : PE X o (LE X.K W fo)) (he : PE X e (LE X.K W fe)) (hs : starEach [e] X.env = [(false, eval e X.env)] := by rfl) (hbase : attributeBase o "split" X.env (eval o X.env) = eval o X.env := by rfl) (hline : (apos.endLine == pos.line) = true := by rfl) :
    PE X (.Call (.Attribute o "split" apos) [e] [] pos) (LN X.K W (vSplit fo fe)) := PE.imp (pe_split ho he hs hbase hline) fun σ H Q ⟨F, A, ρ, m, w, g⟩ =>
  ⟨F, A, ρ, m, w, (Got.bind (R1 := rS X.K) g).mono fun x H1 ⟨F1, A1, m1, o, n1, w1, ro, q⟩ => by
    by_cases e : isStr o = true
    · rw [if_pos e] at q
      exact ⟨isStr_at e ro, F1, A1, ρ, m1, w1, (Got.bind (R1 := rS X.K) q).mono fun y H2 ⟨F2, A2, m2, s, n2, w2, rs, g2⟩ => split_go (n1.trans n2) w2 (ro.next n2.sub n2.pre) rs g2⟩
    · rw [if_neg e] at q; exact none_got q⟩
end
end Vs
end
section
namespace Vs
open PySem PySem.Spec PyProof.Rows L2
variable [WW]
section
variable {K : PySem.W.Frag} {W : WX} {X : Cx}
def Cau (K : PySem.W.Frag) (i : Nat) (a : Addr) (cls : Value) (d : Option Addr) (F : Hp) (A : List Addr) (ρ : List (Option Sl)) (m : List MO) (C : Addr) (fs : List (Str × T)) (σ : L2.St) (H : Hp) : Prop :=
  Wd K F A ρ m σ H ∧ cls = .ref C ∧ (∃ vs, XdAt H d vs ∧ RpF K F vs fs) ∧ σ[i]? = some (some (.ref a))
abbrev XP := Addr → List (Str × T) → Option T
abbrev XB := Addr → List (Str × T) → Option Bool
def LP1 (K : PySem.W.Frag) (i : Nat) (a : Addr) (cls : Value) (d : Option Addr) (f : XP) : TE := fun σ H Q => ∃ F A ρ m C fs, Cau K i a cls d F A ρ m C fs σ H ∧ ∃ t, f C fs = some t ∧ ∀ v, Rp K F v t → Q v H
def LB1 (K : PySem.W.Frag) (i : Nat) (a : Addr) (cls : Value) (d : Option Addr) (f : XB) : TT := fun σ H Q => ∃ F A ρ m C fs, Cau K i a cls d F A ρ m C fs σ H ∧ ∃ b, f C fs = some b ∧ Q b H
section
variable {i : Nat} {a : Addr} {cls : Value} {d : Option Addr}
theorem lp_c {v : V} {t : T} (r : ∀ F, Rp K F v t) {σ : L2.St} {H : Hp} {Q : VK} (h : LP1 K i a cls d (fun _ _ => some t) σ H Q) : tC v σ H Q := by
  obtain ⟨F, A, ρ, m, C, fs, _, t', e, k⟩ := h
  cases e
  exact k v (r F)
theorem pe_xstr {x : Str} {j : Nat} {pos : Pos} : PE X (.Constant (.str x) j pos) (LP1 X.K i a cls d fun _ _ => some (.str x)) := PE.imp pe_str fun _ _ _ => lp_c fun _ => .str x
def xIf (c : XB) (f g : XP) : XP := fun C fs => match c C fs with
  | some true => f C fs
  | some false => g C fs
  | none => none
theorem pe_xif {c e1 e2 : Expr} {fc : XB} {f g : XP} {pos : Pos} (hc : PT X c (LB1 K i a cls d fc)) (h1 : PE X e1 (LP1 K i a cls d f)) (h2 : PE X e2 (LP1 K i a cls d g)) : PE X (.IfExp c e1 e2 pos) (LP1 K i a cls d (xIf fc f g)) := PE.imp (pe_ifExp hc h1 h2) fun σ H Q ⟨F, A, ρ, m, C, fs, cau, t, e, k⟩ => by
  unfold xIf at e
  split at e
  · rename_i eb
    exact ⟨F, A, ρ, m, C, fs, cau, true, eb, by show (if (true : Bool) = true then _ else _); rw [if_pos rfl]; exact ⟨F, A, ρ, m, C, fs, cau, t, e, k⟩⟩
  · rename_i eb
    exact ⟨F, A, ρ, m, C, fs, cau, false, eb, by show (if (false : Bool) = true then _ else _); rw [if_neg Bool.false_ne_true]; exact ⟨F, A, ρ, m, C, fs, cau, t, e, k⟩⟩
  · cases e
def xNot (c : XB) : XB := fun C fs => (c C fs).map (!·)
theorem pt_xnot {e : Expr} {fc : XB} {pos : Pos} (h : PT X e (LB1 K i a cls d fc)) : PT X (.UnaryOp .Not e pos) (LB1 K i a cls d (xNot fc)) := PT.imp (pt_not h) fun σ H Q ⟨F, A, ρ, m, C, fs, cau, b, e, k⟩ => by
  unfold xNot at e
  cases z : fc C fs with
  | none => rw [z] at e; cases e
  | some b' => rw [z] at e; cases e; exact ⟨F, A, ρ, m, C, fs, cau, b', z, k⟩
def xAnd (c1 c2 : XB) : XB := fun C fs => match c1 C fs with
  | some true => c2 C fs
  | some false => some false
  | none => none
theorem pw_xand {e1 e2 : Expr} {rest : List Expr} {f g : XB} {pos : Pos} (ha : PT X e1 (LB1 K i a cls d f)) (hb : PW X (.BoolOp .And (e2 :: rest) pos) (LB1 K i a cls d g)) : PW X (.BoolOp .And (e1 :: e2 :: rest) pos) (LB1 K i a cls d (xAnd f g)) := PW.imp (pw_and ha hb) fun σ H Q ⟨F, A, ρ, m, C, fs, cau, b, e, k⟩ => by
  unfold xAnd at e
  split at e
  · rename_i z
    exact ⟨F, A, ρ, m, C, fs, cau, true, z, by show (if (true : Bool) = true then _ else _); rw [if_pos rfl]; exact ⟨F, A, ρ, m, C, fs, cau, b, e, k⟩⟩
  · rename_i z
    cases e
    exact ⟨F, A, ρ, m, C, fs, cau, false, z, by show (if (false : Bool) = true then _ else _); rw [if_neg Bool.false_ne_true]; exact k⟩
  · cases e
theorem pw_xand1 {e1 : Expr} {f : XB} {pos : Pos} (ha : PT X e1 (LB1 K i a cls d f)) : PW X (.BoolOp .And [e1] pos) (LB1 K i a cls d f) := pw_and1 ha
def xIsi (D : Addr) (b : Bool) : XB := fun C _ => if C = D then some b else none
end
section
variable {i : Nat} {a D T' : Addr} {cls : Value} {d : Option Addr} {oe : Obj} {pn : List (Addr × Obj)} {n c : Str} {p p2 p3 pos : Pos}
theorem pt_xisi {b : Bool} (hx : L2.ExcC X.K D) (hk : PySem.W.kitOne X.K (.ref D) (.ref T') = some b) (hz : Zc cls d oe) (hf : ∃ vs, oe.data = .fields vs) (hg : Gl (X.suite a ((a, oe) :: pn)) "isinstance") (hm : (X.suite a ((a, oe) :: pn)).mg "isinstance" = none) (hN : (X.suite a ((a, oe) :: pn)).N[i]? = some n) (hv : Vis (X.suite a ((a, oe) :: pn)).env.scope n) (hc : PE (X.suite a ((a, oe) :: pn)) (.Name c p3) (tC (.ref T')))
    (hd : (n == ("__debug__" : Str)) = false := by decide) (hcd : (n == ("__classdict__" : Str)) = false := by decide)
    (hs1 : starEach [.Name n p2, .Name c p3] (X.suite a ((a, oe) :: pn)).env = (false, eval (.Name n p2) (X.suite a ((a, oe) :: pn)).env) :: starEach [.Name c p3] (X.suite a ((a, oe) :: pn)).env := by rfl) (hpl : (backTo pos (starEach [.Name c p3] (X.suite a ((a, oe) :: pn)).env)).any (·.1) = false := by rfl) (hs2 : starEach [.Name c p3] (X.suite a ((a, oe) :: pn)).env = (false, eval (.Name c p3) (X.suite a ((a, oe) :: pn)).env) :: starEach [] (X.suite a ((a, oe) :: pn)).env := by rfl)
    (he : ∀ whole, isTrue (.Call (.Name "isinstance" p) [.Name n p2, .Name c p3] [] pos) (X.suite a ((a, oe) :: pn)).env whole = (do let v ← whole; standAt (Expr.Call (.Name "isinstance" p) [.Name n p2, .Name c p3] [] pos).pos; holding [v] (truthy v)) := by intro _; rfl) :
    PT (X.suite a ((a, oe) :: pn)) (.Call (.Name "isinstance" p) [.Name n p2, .Name c p3] [] pos) (LB1 X.K i a cls d (xIsi D b)) := PT.imp (pt_val (pe_callB (Own.call_isX hx hz hf) hg hm (by decide +kernel) (pa_cons (pe_var hN hv hd hcd) (pa_cons hc pa_nil hs2) hs1) (by decide) (by decide) hs1 hpl) he) fun σ H Q ⟨F, A, ρ, m, C, fs, ⟨w, ec, ⟨vs, eh, rf⟩, es⟩, b', e, k⟩ => by
  unfold xIsi at e
  split at e
  · rename_i eC
    cases e
    subst eC
    exact ⟨.ref a, es, T', b, rfl, ec, hk, (by cases d with
      | none => exact .inl rfl
      | some dd => exact .inr ⟨dd, vs, rfl, eh⟩), b, rfl, k⟩
  · cases e
end
def LS1 (K : PySem.W.Frag) (i : Nat) (a : Addr) (cls : Value) (d : Option Addr) (W : WX) (g : Addr → List (Str × T) → VS) : TS := fun D σ H => ∃ F A ρ m C fs, Cau K i a cls d F A ρ m C fs σ H ∧ Ran K W F A H D (g C fs ⟨ρ, m⟩)
def xSet (j : Nat) (f : XP) : Addr → List (Str × T) → VS := fun C fs s => match f C fs with
  | some t => some (.nx, ⟨s.ρ.set j (some (.val t)), s.m⟩)
  | none => none
theorem ps_xset {i j : Nat} {a : Addr} {cls : Value} {d : Option Addr} {x : Str} {e : Expr} {f : XP} {pos pos' : Pos} (hN : X.N.Nodup) (hi : X.N[j]? = some x) (hx : Loc X.env.scope x) (he : PE X e (LP1 K i a cls d f)) (hs : swapsWith e (some (.Name x pos')) pos.line X.env = pure false := by rfl)
    (hf : X.fn x = true ∨ X.env.scope.names.lookup x = some .local := by first | exact .inl rfl | exact .inr rfl) : PS X (.Assign [.Name x pos'] e pos) (LS1 K i a cls d W (xSet j f)) := PS.imp (ps_set hN hi hx he hs hf) fun D σ H ⟨F, A, ρ, m, C, fs, cau, r⟩ => by
  unfold xSet at r
  split at r
  · rename_i t e
    exact ⟨F, A, ρ, m, C, fs, cau, t, e, fun v rv => r.nx (cau.1.set (r := .val t) rv)⟩
  · exact none_ran r
def vTry (mt : Addr → Option Bool) (i : Nat) (fb : VS) (g : Addr → List (Str × T) → VS) : VS := fun s => match fb s with
  | some (.ex C fs, s1) => match mt C with
    | some true => if i < s1.ρ.length then match g C fs ⟨s1.ρ.set i none, s1.m⟩ with
        | some (.nx, s2) => some (.nx, ⟨s2.ρ.set i none, s2.m⟩)
        | _ => none
      else none
    | some false => some (.ex C fs, s1)
    | none => none
  | x => x
theorem Wd.unset {F : Hp} {A : List Addr} {ρ : List (Option Sl)} {m : List MO} {σ : L2.St} {H : Hp} {i : Nat} {o : Option V} (w : Wd K F A ρ m σ H) : Wd K F A (ρ.set i none) m (σ.set i o) H := by
  refine ⟨w.os, fun j s z => ?_, by rw [List.length_set, List.length_set]; exact w.slen⟩
  by_cases e : i = j
  · subst e
    have hl : i < ρ.length := by
      have := (List.getElem?_eq_some_iff.mp z).1
      rw [List.length_set] at this
      exact this
    rw [List.getElem?_set_self hl] at z
    cases z
  · rw [List.getElem?_set_ne e] at z
    obtain ⟨v, h1, h2⟩ := w.slot j s z
    exact ⟨v, by rw [List.getElem?_set_ne e]; exact h1, h2⟩
theorem ls_try {c : Value} {mt : Addr → Option Bool} {i : Nat} {fb : VS} {g : Addr → List (Str × T) → VS} (hmt : ∀ C b, mt C = some b → PySem.W.exmOne K (.ref C) c = some b) {D : Ends} {σ : L2.St} {H : Hp} (h : LS K W (vTry mt i fb g) D σ H) :
    LS K (wAs K c i (fun a cls d => LS1 K i a cls d W g) W D) fb D σ H := by
  obtain ⟨F, A, ρ, m, w, r⟩ := h
  refine ⟨F, A, ρ, m, w, ?_⟩
  unfold vTry at r
  match e : fb ⟨ρ, m⟩, r with
  | none, r => exact none_ran (show Ran K W F A H D none from r)
  | some (.nx, s1), r =>
    obtain ⟨_, _, z, r⟩ := (show Ran K W F A H D (some (.nx, s1)) from r)
    cases z
    exact ⟨_, _, rfl, r⟩
  | some (.bk, s1), r =>
    obtain ⟨_, _, z, r⟩ := (show Ran K W F A H D (some (.bk, s1)) from r)
    cases z
    exact ⟨_, _, rfl, r⟩
  | some (.ct, s1), r =>
    obtain ⟨_, _, z, r⟩ := (show Ran K W F A H D (some (.ct, s1)) from r)
    cases z
    exact ⟨_, _, rfl, r⟩
  | some (.rt v, s1), r =>
    obtain ⟨_, _, z, r⟩ := (show Ran K W F A H D (some (.rt v, s1)) from r)
    cases z
    exact ⟨_, _, rfl, r⟩
  | some (.ex C fs, s1), r =>
    refine ⟨_, _, rfl, fun F' A' σ' d vs H' n' w' rf hd => ?_⟩
    have r : Ran K W F A H D (match mt C with
      | some true => if i < s1.ρ.length then match g C fs ⟨s1.ρ.set i none, s1.m⟩ with
          | some (.nx, s2) => some (.nx, ⟨s2.ρ.set i none, s2.m⟩)
          | _ => none
        else none
      | some false => some (.ex C fs, s1)
      | none => none) := r
    split at r
    · rename_i em
      refine ⟨true, hmt C true em, fun _ a na => ?_, fun z => Bool.noConfusion z⟩
      split at r
      · rename_i hl
        split at r
        · rename_i s2 eg
          exact ⟨F', A', s1.ρ.set i none, s1.m, C, fs, ⟨w'.unset, rfl, ⟨vs, hd, rf⟩, List.getElem?_set_self (by rw [← w'.slen]; exact hl)⟩, _, _, eg, fun F2 A2 σ2 H2 n2 w2 => (r.later (n'.trans n2)).nx w2.unset⟩
        · exact none_ran r
      · exact none_ran r
    · rename_i em
      refine ⟨false, hmt C false em, fun z => Bool.noConfusion z, fun _ => ?_⟩
      obtain ⟨_, _, z, r⟩ := r
      cases z
      exact r F' A' σ' d vs H' n' w' rf hd
    · exact none_ran r
theorem ps_vtry {x n : Str} {c : Value} {mt : Addr → Option Bool} {i : Nat} {fb : VS} {g : Addr → List (Str × T) → VS} {body suite : List Stmt} {b₀ : Stmt} {np pos pos' : Pos} (hmt : ∀ C b, mt C = some b → PySem.W.exmOne X.K (.ref C) c = some b) (hs : X.stack = X.env :: X.outer) (hf : X.env.frame = some X.env.locals) (hN : X.N.Nodup) (hi : X.N[i]? = some n) (hln : X.env.kindOf n = some .local) (hc : Names X x c) (tk : Takes X W)
    (hb : ∀ (W : WX) (pn : List (Addr × Obj)) (xe : Value → Shared → Prop), Takes (X.tr pn xe) W → PassesOwn (model X.prog X.w) X.A X.env xe → PSs (X.tr pn xe) body (LS X.K W fb))
    (hsu : ∀ (a : Addr) (oe : Obj) (cls : Value) (d : Option Addr) (pn : List (Addr × Obj)), Zc cls d oe → (∃ vs, oe.data = .fields vs) → PSs (X.suite a ((a, oe) :: pn)) (b₀ :: suite) (LS1 X.K i a cls d W g)) :
    PS X (.Try body [.ExceptHandler (some (.Name x np)) (some n) (b₀ :: suite) pos'] [] [] pos) (LS X.K W (vTry mt i fb g)) := PS.imp (ps_try_as (tb := fun W => LS X.K W fb) (ts := fun a cls d => LS1 X.K i a cls d W g) (Wout := W) hs hf hN hi hln hc tk hb hsu) fun D σ H h => ls_try hmt h
def vNoEx (fb : VS) : VS := fun s => match fb s with
  | some (.ex _ _, _) => none
  | x => x
theorem ls_noEx {fb : VS} {D : Ends} {σ : L2.St} {H : Hp} (h : LS K W (vNoEx fb) D σ H) : LS K W0 fb D σ H := by
  obtain ⟨F, A, ρ, m, w, r⟩ := h
  refine ⟨F, A, ρ, m, w, ?_⟩
  unfold vNoEx at r
  match e : fb ⟨ρ, m⟩, r with
  | none, r => exact none_ran (show Ran K W F A H D none from r)
  | some (.nx, s1), r =>
    obtain ⟨_, _, z, r⟩ := (show Ran K W F A H D (some (.nx, s1)) from r)
    cases z
    exact ⟨_, _, rfl, r⟩
  | some (.bk, s1), r =>
    obtain ⟨_, _, z, r⟩ := (show Ran K W F A H D (some (.bk, s1)) from r)
    cases z
    exact ⟨_, _, rfl, r⟩
  | some (.ct, s1), r =>
    obtain ⟨_, _, z, r⟩ := (show Ran K W F A H D (some (.ct, s1)) from r)
    cases z
    exact ⟨_, _, rfl, r⟩
  | some (.rt v, s1), r =>
    obtain ⟨_, _, z, r⟩ := (show Ran K W F A H D (some (.rt v, s1)) from r)
    cases z
    exact ⟨_, _, rfl, r⟩
  | some (.ex C fs, s1), r => exact none_ran (show Ran K W F A H D none from r)
theorem ps_vthru {fb : VS} {body : List Stmt} {h₀ : ExceptHandler} {hs : List ExceptHandler} {pos : Pos} (hb : PSs X.nox body (LS X.K W0 fb)) : PS X (.Try body (h₀ :: hs) [] [] pos) (LS X.K W (vNoEx fb)) := PS.imp (ps_try_thru0 hb) fun _ _ _ => ls_noEx
theorem pss_vone1 {K : PySem.W.Frag} {i : Nat} {a : Addr} {cls : Value} {d : Option Addr} {W : WX} {st : Stmt} {g : Addr → List (Str × T) → VS} (h : PS X st (LS1 K i a cls d W g)) : PSs X [st] (LS1 K i a cls d W g) := pss_one h
end
end Vs
end
section
namespace Vs
open PySem PySem.Spec PyProof.Rows L2
variable [WW]
def MkZ (P : Program) (w : World) (K : PySem.W.Frag) (mg : Str → Option Value) (base : Heap) (k : Nat) (x : Str) (C : Addr) : Prop :=
  ∀ (X : Cx) (p pos : Pos), X.prog = P → X.w = w → X.K = K → X.mg = mg → X.base = base → X.calm = true → Room k X.A → Gl X x → PMk X (.Call (.Name x p) [] [] pos) (fun _ H Q => Q (.ref C) none H)
section
variable {W : WX} {X : Cx}
def vRaise0 (C : Addr) : VS := fun s => some (.ex C [], s)
theorem ps_vraise0 {k : Nat} {x : Str} {C : Addr} {p p2 pos : Pos} (Z : MkZ X.prog X.w X.K X.mg X.base k x C) (hc : X.calm = true) (tk : Takes X W) (hr : Room k X.A) (hg : Gl X x) : PS X (.Raise (some (.Call (.Name x p) [] [] p2)) none pos) (LS X.K W (vRaise0 C)) := PS.imp (ps_raise hc tk (Z X p p2 rfl rfl rfl rfl rfl hc hr hg)) fun D σ H ⟨F, A, ρ, m, w, r⟩ => by
  obtain ⟨_, _, z, q⟩ := r
  cases z
  exact q F A σ none [] _ Nxt.refl w .nil rfl
end
end Vs
end
section
namespace Vs
open PySem PySem.Spec PyProof.Rows L2
variable [WW]
section
variable {K : PySem.W.Frag} {W : WX} {X : Cx}
def vNever : VS := fun _ => none
theorem ps_vnever {st : Stmt} : PS X st (LS K W vNever) := PS.imp ps_never fun D σ H ⟨F, A, ρ, m, w, r⟩ => none_ran r
def gAug (i : Nat) (ρ : List (Option Sl)) (f : Int → Int → Int) (y : Sl) (m : List MO) : R := match ρ[i]?, y with
  | some (some (.val (.int a))), .val (.int b) => some (.nx, ⟨ρ.set i (some (.val (.int (f a b)))), m⟩)
  | _, _ => none
def vHas (i : Nat) (g : VS) : VS := fun s => match s.ρ[i]? with
  | some (some (.val (.int _))) => g s
  | _ => none
def vAug (i : Nat) (f : Int → Int → Int) (fe : VE) : VS := vHas i fun s => bS s.ρ (fe s) (gAug i s.ρ f)
end
end Vs
end
section
namespace Vs
open PySem PySem.Spec PyProof.Rows L2
variable [WW]
section
variable {K : PySem.W.Frag} {W : WX} {X : Cx}
def gSetI (ρ : List (Option Sl)) (v o k : Sl) (m : List MO) : R := match v, o, k with
  | .val t, .own j, .val (.int i) => match m[j]? with
    | some (.lst ts) => match ixN ts.length i with
      | some p => some (.nx, ⟨ρ, m.set j (.lst (ts.set p t))⟩)
      | none => none
    | _ => none
  | _, _, _ => none
def vSetI (fo fi fv : VE) : VS := fun s => bS s.ρ (fv s) fun v m1 => bS s.ρ (fo ⟨s.ρ, m1⟩) fun o m2 => bS s.ρ (fi ⟨s.ρ, m2⟩) fun k m3 => gSetI s.ρ v o k m3
def intFld (ok : Addr → Bool) (f : Str) (o : Sl) (m : List MO) : Option (Nat × Addr × Int) := match o with
  | .own i => match m[i]? with
    | some (.ins C fs) => if ok C = true then match fs.lookup f with
      | some (.val (.int a)) => some (i, C, a)
      | _ => none
      else none
    | _ => none
  | _ => none
def gAugF (ρ : List (Option Sl)) (f : Str) (i : Nat) (C : Addr) (a : Int) (y : Sl) (m : List MO) : R := match y with
  | .val (.int b) => match m[i]? with
    | some (.ins C' fs) => if C' = C ∧ fs.length < 1000 then some (.nx, ⟨ρ, m.set i (.ins C (putS f (.val (.int (a + b))) fs))⟩) else none
    | _ => none
  | _ => none
def vAugF (ok : Addr → Bool) (f : Str) (fo fv : VE) : VS := fun s => bS s.ρ (fo s) fun o m1 => match intFld ok f o m1 with
  | some (i, C, a) => bS s.ρ (fv ⟨s.ρ, m1⟩) fun y m2 => gAugF s.ρ f i C a y m2
  | none => none
end
end Vs
end
section
namespace Vs
open PySem PySem.Spec PyProof.Rows L2
variable [WW]
section
variable {K : PySem.W.Frag} {W : WX} {X : Cx}
def frzFs : List (Str × Sl) → List MO → Option (List (Str × T) × List MO)
  | [], m => some ([], m)
  | (x, .val t) :: r, m => match frzFs r m with
    | some (ts, m') => some ((x, t) :: ts, m')
    | none => none
  | (x, .own j) :: r, m => match m[j]? with
    | some (.lst ts) => match frzFs r (m.set j .dead) with
      | some (us, m') => some ((x, .lst ts) :: us, m')
      | none => none
    | _ => none
theorem frzFs_ok {A : List Addr} {ρ : List (Option Sl)} {σ : L2.St} {H : Hp} : ∀ {fs : List (Str × Sl)} {vs : List (Str × V)} {F : Hp} {m m' : List MO} {ts : List (Str × T)}, Wd K F A ρ m σ H → RpG K F A vs fs → frzFs fs m = some (ts, m') →
    ∃ F', Nxt F A H F' A H ∧ Wd K F' A ρ m' σ H ∧ RpF K F' vs ts ∧ ∀ (i : Nat) (o : MO), (∀ us, o ≠ .lst us) → m[i]? = some o → m'[i]? = some o
  | [], _, F, m, m', ts, w, .nil, e => by
    cases e
    exact ⟨F, Nxt.refl, w, .nil, fun _ _ _ h => h⟩
  | (x, .val t) :: r, _, F, m, m', ts, w, .cons h q, e => by
    unfold frzFs at e
    cases z : frzFs r m with
    | none => rw [z] at e; cases e
    | some p =>
      obtain ⟨us, m2⟩ := p
      rw [z] at e
      cases e
      obtain ⟨F', n, w', rf, k⟩ := frzFs_ok w q z
      exact ⟨F', n, w', .cons (Rp.same n.sub h) rf, k⟩
  | (x, .own j) :: r, _, F, m, m', ts, w, .cons h q, e => by
    unfold frzFs at e
    cases em : m[j]? with
    | none => rw [em] at e; cases e
    | some o =>
      rw [em] at e
      cases o with
      | lst us =>
        simp only at e
        cases z : frzFs r (m.set j .dead) with
        | none => rw [z] at e; cases e
        | some p =>
          obtain ⟨vs', m2⟩ := p
          rw [z] at e
          cases e
          obtain ⟨a, ea, rfl⟩ := h
          obtain ⟨fa, xs, eh, rl⟩ := w.os.obj j a _ ea em
          obtain ⟨n1, w1⟩ := freeze w ea em fa eh
          obtain ⟨F', n, w', rf, k⟩ := frzFs_ok w1 (q.next n1.sub n1.pre) z
          refine ⟨F', n1.trans n, w', .cons (Rp.lst (n.sub _ _ upd_same) (rl.same (n1.sub.trans n.sub))) rf, fun i o ho hi => k i o ho ?_⟩
          have ne : j ≠ i := fun z => by rw [z] at em; rw [hi] at em; cases em; exact ho _ rfl
          rw [List.getElem?_set_ne ne]
          exact hi
      | rcd _ => cases e
      | ins _ _ => cases e
      | lsO _ => cases e
      | dct _ => cases e
      | dctL _ => cases e
      | dead => cases e
def gInsD (r : Sl) (m : List MO) : M Sl := match r with
  | .own i => match m[i]? with
    | some (.ins C fs) => match frzFs fs m with
      | some (ts, m') => rM (.val (.ins C ts)) (m'.set i .dead)
      | none => none
    | some (.lst ts) => rM (.val (.lst ts)) (m.set i .dead)
    | some (.rcd fs) => match frzFs fs m with
      | some (ts, m') => rM (.val (.rcd ts)) (m'.set i .dead)
      | none => none
    | _ => none
  | s => rM s m
def vInsD (f : VE) : VE := fun s => bM (f s) gInsD
theorem le_insD {f : VE} {σ : L2.St} {H : Hp} {Q : VK} (h : LE K W (vInsD f) σ H Q) : LE K W f σ H Q := by
  obtain ⟨F, A, ρ, m, w, got⟩ := h
  refine ⟨F, A, ρ, m, w, (Got.bind (R1 := rS K) got).mono fun x H1 ⟨F1, A1, m1, a, n1, w1, ra, q⟩ => ?_⟩
  unfold gInsD at q
  split at q
  · rename_i i
    split at q
    · rename_i C fs em
      split at q
      · rename_i ts m' et
        obtain ⟨ad, ea, rfl⟩ := ra
        obtain ⟨fa, dx, vs, eh, rg⟩ := w1.os.obj i ad _ ea em
        obtain ⟨F2, n2, w2, rf, kk⟩ := frzFs_ok w1 rg et
        obtain ⟨fa2, dx2, vs2, eh2, rg2⟩ := w2.os.obj i ad _ ea (kk _ _ (fun _ z => by cases z) em)
        obtain ⟨n3, w3⟩ := freezeU w2 ea fa2 eh
        exact q.fin (n2.trans n3) w3 (show RpS K _ A1 (.ref ad) (.val (.ins C ts)) from .ins upd_same (rf.same' n3.sub))
      · exact none_got q
    · rename_i ts em
      obtain ⟨ad, ea, rfl⟩ := ra
      obtain ⟨fa, xs, eh, rl⟩ := w1.os.obj i ad _ ea em
      obtain ⟨n2, w2⟩ := freeze w1 ea em fa eh
      exact q.fin n2 w2 (show RpS K _ A1 (.ref ad) (.val (.lst ts)) from .lst upd_same (rl.same n2.sub))
    · rename_i fs em
      split at q
      · rename_i ts m' et
        obtain ⟨ad, ea, rfl⟩ := ra
        obtain ⟨fa, vs, eh, rg⟩ := w1.os.obj i ad _ ea em
        obtain ⟨F2, n2, w2, rf, kk⟩ := frzFs_ok w1 rg et
        obtain ⟨fa2, vs2, eh2, rg2⟩ := w2.os.obj i ad _ ea (kk _ _ (fun _ z => by cases z) em)
        obtain ⟨n3, w3⟩ := freezeU w2 ea fa2 eh
        exact q.fin (n2.trans n3) w3 (show RpS K _ A1 (.ref ad) (.val (.rcd ts)) from .rcd upd_same (rf.same' n3.sub))
      · exact none_got q
    · exact none_got q
  · exact q.now w1 ra
theorem pe_vinsD {e : Expr} {f : VE} (h : PE X e (LE K W f)) : PE X e (LE K W (vInsD f)) := PE.imp h fun _ _ _ => le_insD
def vLoopO (g : VG) (b : VS) (j : Nat) : Nat → Nat → S → R
  | 0, _, _ => none
  | n + 1, i, s => match s.m[j]? with
    | some (.lst ts) => match ts[i]? with
      | none => some (.nx, s)
      | some t => match g t s.ρ with
        | none => none
        | some ρ1 => match b ⟨ρ1, s.m⟩ with
          | some (.nx, s2) => vLoopO g b j n (i + 1) s2
          | some (.ct, s2) => vLoopO g b j n (i + 1) s2
          | some (.bk, s2) => some (.nx, s2)
          | x => x
    | _ => none
def gForO (g : VG) (b : VS) (ρ : List (Option Sl)) (o : Sl) (m : List MO) : R := match o with
  | .own j => vLoopO g b j 1000 0 ⟨ρ, m⟩
  | _ => none
def vForO (f : VE) (g : VG) (b : VS) : VS := fun s => bS s.ρ (f s) fun o m => gForO g b s.ρ o m
def lstAt (o k : Sl) (m : List MO) : Option (Nat × Nat × Int) := match o, k with
  | .own j, .val (.int i) => match m[j]? with
    | some (.lst ts) => if 0 ≤ i then match ts[i.toNat]? with
      | some (.int a) => some (j, i.toNat, a)
      | _ => none
      else none
    | _ => none
  | _, _ => none
def gAugI (ρ : List (Option Sl)) (j p : Nat) (a : Int) (y : Sl) (m : List MO) : R := match y with
  | .val (.int b) => match m[j]? with
    | some (.lst ts) => if p < ts.length then some (.nx, ⟨ρ, m.set j (.lst (ts.set p (.int (a + b))))⟩) else none
    | _ => none
  | _ => none
def vAugI (fo fi fv : VE) : VS := fun s => bS s.ρ (fo s) fun o m1 => bS s.ρ (fi ⟨s.ρ, m1⟩) fun k m2 => match lstAt o k m2 with
  | some (j, p, a) => bS s.ρ (fv ⟨s.ρ, m2⟩) fun y m3 => gAugI s.ρ j p a y m3
  | none => none
structure KDv (K : PySem.W.Frag) (w : World) (mg : Str → Option Value) (x : Str) (tab : Str → Option T) where
  d : Addr
  m : mg x = some (.ref d)
  r : ∀ z t, tab z = some t → ∃ v, KDct K w d z v ∧ ∀ F, Rp K F v t
def gKd (tab : Str → Option T) (s : Sl) (m : List MO) : M Sl := match s with
  | .val (.str z) => match tab z with
    | some t => rM (.val t) m
    | none => none
  | _ => none
def vKd (tab : Str → Option T) (f : VE) : VE := fun s => bM (f s) (gKd tab)
structure KDi (K : PySem.W.Frag) (w : World) (mg : Str → Option Value) (x : Str) (tab : Str → Option Bool) where
  d : Addr
  es : Array DictEntry
  n : Nat
  m : mg x = some (.ref d)
  kd : KDict K w d es n
  r : ∀ z b, tab z = some b → ∃ o, PySem.W.nsIn K d z = some o ∧ o.isSome = b
end
end Vs
end
section
namespace Vs
open PySem PySem.Spec PyProof.Rows L2
variable [WW]
section
variable {P : Program} {w : World} {K : PySem.W.Frag} {mg : Str → Option Value} {base : Heap}
theorem okVD {x qual : Str} {st : Stmt} {f : Addr} {fd : FuncData} {dvs : List V} {N ps : List Str} {k : Nat} {b : VS} (F : FunD K x qual (defArgs st) (defBody st) (defScope st) dvs [] f fd) (S : FnScope N ps (defScope st))
    (hb : ∀ (cdv : Value) (A : Around) (outer : List Env) (s : Shared) (H : Hp) (E : XK), Room k (A.deeper (envOfC qual (defScope st) s.heap.objs.size f cdv)) →
      PSs (cxOf (L2.CX P w) P w K mg base N qual (defScope st) f cdv A outer s H E) (defBody st) (LS K (fun cls d _ H => E cls d H) b)) : FnOk P w K mg base (L2.CX P w) (k + 1) f fd ps (SpV K ps.length (vDef N.length b)) := by
  refine F.ok S (fun vs H Q E h => h.1) (fun cdv A outer s H vs Q E hr h => ⟨_, hb cdv A outer s H E hr, ?_⟩)
  obtain ⟨hl, F0, A0, args, m, o, r, out, m', ev, hq⟩ := h
  unfold vDef at ev
  refine ⟨F0, A0, _, m, wd_start (N := N) o r, ?_⟩
  split at ev
  · rename_i rr s' eb
    cases ev
    exact ⟨_, _, eb, fun F' A' σ' v H' n w' rv => let ⟨A2, n2, o2, r2⟩ := objs_cut (.ok rr) n o w'.os; hq F' A2 v H' n2 o2 (r2 _ _ rfl rv)⟩
  · rename_i s' eb
    cases ev
    exact ⟨_, _, eb, fun F' A' σ' H' n w' => let ⟨A2, n2, o2, _⟩ := objs_cut (.ok (.val .non)) n o w'.os; hq F' A2 .non H' n2 o2 (show Rp K F' .non .non from .non)⟩
  · rename_i C fs s' eb
    cases ev
    exact ⟨_, _, eb, fun F' A' σ' d ws H' n w' rf hd => let ⟨A2, n2, o2, _⟩ := objs_cut (.ex C fs) n o w'.os; hq F' A2 d ws H' n2 o2 rf hd⟩
  · cases ev
end
section
variable {K : PySem.W.Frag} {W : WX} {X : Cx}
def gKi (neg : Bool) (tab : Str → Option Bool) (a : Sl) (m : List MO) : M Sl := match a with
  | .val (.str z) => match tab z with
    | some b => rM (.val (.bl (if neg then !b else b))) m
    | none => none
  | _ => none
def vKi (neg : Bool) (tab : Str → Option Bool) (f : VE) : VE := fun s => bM (f s) (gKi neg tab)
structure DT (P : Program) (w : World) (K : PySem.W.Frag) (mg : Str → Option Value) (base : Heap) (kk np : Nat) (f : Addr) (vf : VF) : Prop where
  ex : ∃ (k : Nat) (fd : FuncData) (ps : List Str), k ≤ kk ∧ FnOk P w K mg base (L2.CX P w) k f fd ps (SpV K np vf) ∧ PySem.W.keepIn K (.ref f) = true ∧ Binds K fd ps []
def vCallT (i : Nat) (tb : Addr → Option VF) (fa : VA) : VE := fun s => match s.ρ[i]? with
  | some (some (.val (.cst (.ref f)))) => match tb f with
    | some vf => bM (fa s) fun ss m => callM vf ss m
    | none => none
  | _ => none
def noEx (vf : VF) : VF := fun as m => match vf as m with
  | some (.ok r, m') => some (.ok r, m')
  | _ => none
end
section
open PySem.W PyProof.Rows
end
section
variable {W : WX} {X : Cx}
def gStar1 (i j : Nat) (ρ : List (Option Sl)) (s : Sl) (m : List MO) : R := match s with
  | .val (.lst (t :: r)) => some (.nx, ⟨(ρ.set i (some (.val t))).set j (some (.val (.lst r))), m⟩)
  | _ => none
def vStar1 (i j : Nat) (f : VE) : VS := fun s => bS s.ρ (f s) (gStar1 i j s.ρ)
end
end Vs
end
section
namespace Vs
open PySem PySem.Spec PyProof.Rows L2
variable [WW]
section
variable {K : PySem.W.Frag} {W : WX} {X : Cx}
instance (x : Str) (n : Int) : Decidable (MulOk x n) := by unfold MulOk; infer_instance
end
structure MIK (P : Program) (w : World) (K : PySem.W.Frag) (mg : Str → Option Value) (base : Heap) (k np : Nat) (x : Str) (C : Addr) (vf : VF) (ks : List Str) where
  f : Addr
  fd : FuncData
  ps : List Str
  gg : List Value → List Value → List Value
  mks : Mk K C f
  g : FnOk P w K mg base (L2.CX P w) k f fd ps (SpV K np vf)
  kb : KBn K fd ps 1 ks gg fun vs zs => vs ++ zs
  m : mg x = some (.ref C)
end Vs
end
section
namespace Vs
open PySem PySem.Spec PyProof.Rows L2
variable [WW]
theorem ma0 {p : Addr → Prop} : ∀ C ∈ ([] : List Addr), p C := fun _ h => nomatch h
theorem ma1 {p : Addr → Prop} {a : Addr} {l : List Addr} (h : p a) (r : ∀ C ∈ l, p C) : ∀ C ∈ a :: l, p C := List.forall_mem_cons.mpr ⟨h, r⟩
section
variable {K : PySem.W.Frag}
theorem fldOk_of {f : Str} {l : List Addr} (h : ∀ C ∈ l, Cls K C ∧ NoAttr K C f) : FldOk K f (fun C => decide (C ∈ l)) := fun C e => h C (of_decide_eq_true e)
theorem own_of {P : Program} {w : World} {mg : Str → Option Value} {base : Heap} {gs : Addr} {l : List Addr} (h : ∀ C ∈ l, ∃ ge, Own.OwnC K C gs ge) : ∀ C, (fun C => decide (C ∈ l)) C = true → ∃ ge, Own.OwnC K C gs ge := fun C e => h C (of_decide_eq_true e)
theorem kit_own {t : Value} {C : Addr} {b : Bool} (h1 : PySem.W.isClsIn K C = true) (h2 : PySem.W.typeIn K (.ref C) = some (.type "type")) (h3 : PySem.W.subIn K t (.ref C) = some b) (h0 : (t == .ref C) = false ∨ b = true) : PySem.W.kitOne K t (.ref C) = some b := by
  unfold PySem.W.kitOne
  split
  · rename_i e
    rcases h0 with h0 | h0
    · rw [h0] at e; cases e
    · rw [h0]
  · have e : ((PySem.W.clsIn K C).isSome && PySem.W.typeIn K (.ref C) == some (.type "type")) = true := by
      have h1' : (PySem.W.clsIn K C).isSome = true := h1
      rw [h1', h2]; rfl
    show (if ((PySem.W.clsIn K C).isSome && PySem.W.typeIn K (.ref C) == some (.type "type")) = true then PySem.W.subIn K t (.ref C) else none) = some b
    rw [if_pos e]
    exact h3
theorem kit_tp {C : Addr} {T : String} {b : Bool} (hm : PySem.W.kitMeta T = true) (h : PySem.W.subIn K (.ref C) (.type T) = some b) : PySem.W.kitOne K (.ref C) (.type T) = some b := by
  have e : ((Value.ref C) == (Value.type T)) = false := beq_eq_false_iff_ne.mpr fun z => nomatch z
  show (if ((Value.ref C) == (Value.type T)) = true then some true else if PySem.W.kitMeta T = true then PySem.W.subIn K (.ref C) (.type T) else none) = some b
  rw [e, if_neg Bool.false_ne_true, if_pos hm]
  exact h
theorem bfR {x y : Addr} (h : x ≠ y) : (Value.ref x == Value.ref y) = false := beq_eq_false_iff_ne.mpr fun z => h (Value.ref.inj z)
theorem insTy_of {C : Addr} (cl : Cls K C) (ca : PySem.W.findIn K (.ref C) "__class__" = some (some (.builtin "object.__class__"))) (cn : PySem.W.specialIn K (.builtin "object.__class__") "__get__" = some (some (.builtin "getset_descriptor.__get__"))) (ct : PySem.W.takesIn K (.builtin "object.__class__") = some true) (cm : PySem.W.mroIn K C (.type "object") = some true) : InsTy K C :=
  fun H a dx fs h => .base (.ins h cl ca cn ct cm)
theorem ct_of {u : Value} {l1 l2 : List Addr} (h1 : ∀ C ∈ l1, PySem.W.kitOne K (.ref C) u = some true ∧ InsTy K C) (h2 : ∀ C ∈ l2, PySem.W.kitOne K (.ref C) u = some false ∧ InsTy K C) : CtOk K u (fun C => if C ∈ l1 then some true else if C ∈ l2 then some false else none) := fun C b e => by
  simp only at e
  split at e
  · rename_i h; cases e; exact h1 C h
  · split at e
    · rename_i h; cases e; exact h2 C h
    · cases e
theorem ctB_of {u : Value} {l : List Addr} (h : ∀ C ∈ l, PySem.W.kitOne K (.ref C) u = some false ∧ InsTy K C) : CtOk K u (fun C => if C ∈ l then some false else none) := fun C b e => by
  simp only at e
  split at e
  · rename_i h'; cases e; exact h C h'
  · cases e
theorem isT_own {D : Addr} {ct : Addr → Option Bool} (iD : PySem.W.isClsIn K D = true) (tD : PySem.W.typeIn K (.ref D) = some (.type "type")) (n1 : PySem.W.subIn K (.type "NoneType") (.ref D) = some false) (n2 : PySem.W.subIn K (.type "bool") (.ref D) = some false) (n3 : PySem.W.subIn K (.type "int") (.ref D) = some false)
    (n4 : PySem.W.subIn K (.type "str") (.ref D) = some false) (n5 : PySem.W.subIn K (.type "list") (.ref D) = some false) (n6 : PySem.W.subIn K (.type "tuple") (.ref D) = some false) (hc : CtOk K (.ref D) ct) : IsT K [.ref D] (tyTab (fun _ => false) ct) := isT1 (fun y hy => by
  have z : ∀ T : String, ((Value.type T) == (Value.ref D)) = false := fun T => beq_eq_false_iff_ne.mpr fun z => nomatch z
  cases y with
  | cls C => exact absurd rfl (hy C)
  | non => exact kit_own iD tD n1 (.inl (z _))
  | bl => exact kit_own iD tD n2 (.inl (z _))
  | int => exact kit_own iD tD n3 (.inl (z _))
  | str => exact kit_own iD tD n4 (.inl (z _))
  | lst => exact kit_own iD tD n5 (.inl (z _))
  | tup => exact kit_own iD tD n6 (.inl (z _))) hc
theorem KTup.of {a : Addr} {xs : List V} {its : List Value} {n : Nat} {sl : Array (Option Value)} (l : K.lookup a = some ⟨.type "tuple", none, .seq its.toArray n, sl⟩) (hz : its.length ≤ 1000) (r : Vals xs its) (H : Hp) : SqB K H a xs :=
  ⟨.inr ⟨_, its.toArray, n, l, rfl, rfl, by rw [List.size_toArray]; exact Nat.le_trans hz (by decide), r⟩, .inr ⟨_, l, rfl⟩⟩
theorem fund_mk {x qual : Str} {params : Arguments} {body : List Stmt} {scope : Scope} {dvs : List V} {f T : Addr} {oc kV doc pm cd ct tc : Value} {od an td : Option Addr} {osl tsl : Array (Option Value)} {its : List Value} {n : Nat}
    (l : K.lookup f = some ⟨oc, od, .func (PySem.W.fnOf x qual params body scope (.ref T) kV doc pm an cd ct), osl⟩) (c : PySem.W.codeIn K cd qual = true) (t : K.lookup T = some ⟨tc, td, .seq its.toArray n, tsl⟩) (v : Vals dvs its) (hd : dvs ≠ []) (k : PySem.W.keepIn K (.ref f) = true) :
    FunD K x qual params body scope dvs [] f (PySem.W.fnOf x qual params body scope (.ref T) kV doc pm an cd ct) :=
  ⟨⟨oc, od, .ref T, kV, doc, pm, an, cd, ct, osl, rfl, l, c, .inr ⟨hd, T, _, its, n, rfl, t, rfl, v⟩, .inl rfl⟩, k⟩
theorem cmet_mk {C p g : Addr} {mc : Value} {m : Str} {rest : List Value} (h1 : PySem.W.findCls K (.ref C) mc m = some (.get (.builtin "classmethod.__get__") (.ref p) .none (.ref C))) (h2 : PySem.W.recIn K p "classmethod" = some (.ref g :: rest)) (h3 : PySem.W.fnIn K g = true) : ClX.CMet K C mc m p g := ⟨h1, ⟨rest, h2⟩, h3⟩
theorem tb0 {p : Addr → VF → Prop} : ∀ C vf, (none : Option VF) = some vf → p C vf := fun _ _ e => nomatch e
theorem tb1 {p : Addr → VF → Prop} {C0 : Addr} {v0 : VF} {rest : Addr → Option VF} (h : p C0 v0) (r : ∀ C vf, rest C = some vf → p C vf) : ∀ C vf, (if C = C0 then some v0 else rest C) = some vf → p C vf := fun C vf e => by
  split at e
  · rename_i z; cases e; subst z; exact h
  · exact r C vf e
end
section
variable {P : Program} {w : World} {K : PySem.W.Frag} {mg : Str → Option Value} {base : Heap}
end
theorem cx_end {P : Program} {w : World} {H : Hp} {s s' : Shared} {e : Value} (h : L2.CX P w [] H s (fun _ _ _ => False) e s') : False := by
  obtain ⟨_, _, _, _, _, _, _, _, _, _, _, _, z⟩ := h
  exact z
theorem ints_rp {K : PySem.W.Frag} {F : Hp} : ∀ ns : List Int, RpL K F (ns.map V.int) (ns.map T.int)
  | [] => .nil
  | n :: r => .cons (.int n) (ints_rp r)
def noTbl (H : Hp) : Hp := fun b => match H b with
  | some (.tbl _) => none
  | o => o
theorem noTbl_sub (H : Hp) : Same (noTbl H) H := fun b u e => by
  unfold noTbl at e
  split at e
  · cases e
  · exact e
theorem noTbl_of {H : Hp} {b : Addr} {o : HO} (h : H b = some o) (n : ∀ ps, o ≠ .tbl ps := by (intro _ z; cases z)) : noTbl H b = some o := by
  unfold noTbl
  split
  · rename_i ps e
    rw [h] at e
    exact absurd (Option.some.inj e) (n ps)
  · exact h
theorem noTbl_none {H : Hp} {b : Addr} {ps : Array Value} (h : H b = some (.tbl ps)) : noTbl H b = none := by
  unfold noTbl
  rw [h]
theorem law_sp {K : PySem.W.Frag} {vf : VF} {n : Nat} (h : ∀ ns : List Int, ns.length ≤ n → ∃ m', vf [.val (.seq (ns.map T.int))] [] = some (.ok (.val (.bl true)), m')) (H : Hp) (a : Addr) (ns : List Int) (hl : ns.length ≤ n) (hS : SqL K H a (ns.map V.int))
    (hg : WW.g = fun _ => none := by rfl) (ht : ∀ p ∈ WW.tb, H p.1 = some (.tbl #[]) := by (intro p h; cases h)) :
    SpV K 1 vf [.ref a] H (fun v _ => v = .bl true) fun _ _ _ => False := by
  obtain ⟨m', e⟩ := h ns hl
  have hS2 : SqL K (noTbl H) a (ns.map V.int) := by
    rcases hS with (z | ⟨o, z⟩) | z
    · exact .inl (.inl (noTbl_of z))
    · exact .inl (.inr ⟨o, noTbl_of z⟩)
    · exact .inr z
  refine ⟨rfl, noTbl H, [], [.val (.seq (ns.map T.int))], [], ⟨noTbl_sub H, rfl, List.nodup_nil, fun _ h => (nomatch h), fun i a o h => by simp at h, fun b u z => (by rw [hg] at z; cases z), fun p hp => ⟨fun z => (nomatch z), noTbl_none (ht p hp), #[], ht p hp, True.intro, fun pos cv hc => by
    have z : codeAmong pos [] = some cv := hc
    simp [codeAmong] at z⟩⟩, .cons (show Rp K (noTbl H) (.ref a) (.seq (ns.map T.int)) from .seq hS2 (ints_rp ns)) .nil, _, m', e, ?_⟩
  intro F' A' v H' n' o r
  cases r
  rfl
end Vs
end
section
namespace Vs
open PySem PySem.Spec PyProof.Rows L2
mutual
inductive NKey (K : PySem.W.Frag) (H : Hp) : V → NestedKey → Prop
  | non : NKey K H .non .none
  | bl (b : Bool) : NKey K H (.bl b) (.num (if b = true then 1 else 0))
  | int (i : Int) : NKey K H (.int i) (.num i)
  | str (x : Str) : NKey K H (.str x) (.text x)
  | tup {a : Addr} {xs : List V} {ks : List NestedKey} : SqT K H a xs → NKeys K H xs ks → NKey K H (.ref a) (.tup ks)
inductive NKeys (K : PySem.W.Frag) (H : Hp) : List V → List NestedKey → Prop
  | nil : NKeys K H [] []
  | cons {v : V} {vs : List V} {k : NestedKey} {ks : List NestedKey} : NKey K H v k → NKeys K H vs ks → NKeys K H (v :: vs) (k :: ks)
end
section
variable {K : PySem.W.Frag} {F H : Hp}
mutual
theorem rp_nkey (e : Same F H) : ∀ {v : V} {t : T} {k : NestedKey}, Rp K F v t → nkOf t = some k → NKey K H v k
  | _, _, k, .non, h => by unfold nkOf at h; cases h; exact .non
  | _, _, k, .bl b, h => by unfold nkOf at h; cases h; exact .bl b
  | _, _, k, .int i, h => by unfold nkOf at h; cases h; exact .int i
  | _, _, k, .str x, h => by unfold nkOf at h; cases h; exact .str x
  | _, .tup ts, k, .tup a r, h => by
    unfold nkOf at h
    cases z : nksOf ts with
    | none => rw [z] at h; cases h
    | some ks => rw [z] at h; cases h; exact .tup (sqT_same e a.1) (rpL_nkeys e r z)
  | _, _, k, .lst a r, h => by unfold nkOf at h; cases h
  | _, _, k, .seq a r, h => by unfold nkOf at h; cases h
  | _, _, k, .pr a r, h => by unfold nkOf at h; cases h
  | _, _, k, .ins a r, h => by unfold nkOf at h; cases h
  | _, _, k, .rcd a r, h => by unfold nkOf at h; cases h
  | _, _, k, .cst v, h => by unfold nkOf at h; cases h
theorem rpL_nkeys (e : Same F H) : ∀ {vs : List V} {ts : List T} {ks : List NestedKey}, RpL K F vs ts → nksOf ts = some ks → NKeys K H vs ks
  | _, _, ks, .nil, h => by unfold nksOf at h; cases h; exact .nil
  | _, t :: r, ks, .cons a q, h => by
    unfold nksOf at h
    split at h
    · rename_i k ks' h1 h2
      cases h
      exact .cons (rp_nkey e a h1) (rpL_nkeys e q h2)
    · cases h
end
end
section
variable {X : Cx} {pins : List (Addr × Obj)} {σ : L2.St} {H : Hp} {s : Shared}
mutual
theorem nkey_is (I : Inv X pins σ H s) : ∀ {v : V} {k : NestedKey} {u : Value}, NKey X.K H v k → RelV v u → NestedIs s.heap k u
  | _, _, u, .non, r => by cases (show u = .none from r); exact .none
  | _, _, u, .bl b, r => by cases (show u = .bool b from r); exact .bool rfl
  | _, _, u, .int i, r => by obtain ⟨t, rfl⟩ := r; exact .int i t
  | _, _, u, .str x, r => by obtain ⟨t, rfl⟩ := r; exact .text x t
  | _, _, u, .tup (a := a) hq hk, r => by
    cases (show u = .ref a from r)
    obtain ⟨its, rv, ht, hz⟩ := I.tuple hq
    obtain ⟨o, h1, h2, n, h3⟩ := ht
    exact .tup h1 h2 h3 (by simpa using nkeys_is I hk rv)
theorem nkeys_is (I : Inv X pins σ H s) : ∀ {vs : List V} {ks : List NestedKey} {us : List Value}, NKeys X.K H vs ks → Vals vs us → NestedAll s.heap ks us
  | _, _, _, .nil, r => by cases r; exact .nil
  | _, _, _, .cons h q, r => by
    cases r with
    | cons r1 r2 => exact .cons (nkey_is I h r1) (nkeys_is I q r2)
end
end
section
variable {X : Cx}
end
end Vs
end
section
namespace Vs
open PySem PySem.Spec PyProof.Rows L2
def dFindK : List (T × T) → NestedKey → Option T
  | [], _ => none
  | (t, u) :: r, k => match nkOf t with
    | some k' => if NestedKey.beq k' k = true then some u else dFindK r k
    | none => none
def dRepK (k : NestedKey) (v : T) : List (T × T) → List (T × T)
  | [] => []
  | (t, u) :: r => (match nkOf t with
    | some k' => if NestedKey.beq k' k = true then (t, v) else (t, u)
    | none => (t, u)) :: dRepK k v r
def dPutK (kvs : List (T × T)) (t : T) (k : NestedKey) (v : T) : List (T × T) := match dFindK kvs k with
  | some _ => dRepK k v kvs
  | none => kvs ++ [(t, v)]
def nkTup (t : T) : Option NestedKey := match t with
  | .tup ts => match nksOf ts with
    | some ks => if (NestedKey.tup ks).depth ≤ 8 then some (.tup ks) else none
    | none => none
  | _ => none
section
variable {K : PySem.W.Frag} {F : Hp}
end
variable [WW]
section
variable {K : PySem.W.Frag} {W : WX} {X : Cx}
def gNSet (ρ : List (Option Sl)) (v o k : Sl) (m : List MO) : R := match v, o, k with
  | .val u, .own j, .val t => match m[j]?, nkTup t with
    | some (.dct kvs), some k => if kvs.length < SZ then some (.nx, ⟨ρ, m.set j (.dct (dPutK kvs t k u))⟩) else none
    | _, _ => none
  | _, _, _ => none
def vNSet (fo fi fv : VE) : VS := fun s => bS s.ρ (fv s) fun v m1 => bS s.ρ (fo ⟨s.ρ, m1⟩) fun o m2 => bS s.ρ (fi ⟨s.ρ, m2⟩) fun k m3 => gNSet s.ρ v o k m3
end
end Vs
end
section
namespace Vs
open PySem PySem.Spec PyProof.Rows L2
section
variable {X : Cx}
end
variable [WW]
section
variable {K : PySem.W.Frag} {W : WX} {X : Cx}
end
end Vs
end
section
namespace Vs
open PySem PySem.Spec PyProof.Rows L2
section
variable {X : Cx}
end
end Vs
end
section
namespace L2
open PySem PySem.Spec PyProof.Rows
section
variable {X : Cx}
end
end L2
end
section
namespace Vs
open PySem PySem.Spec PyProof.Rows L2
variable [WW]
section
variable {K : PySem.W.Frag} {W : WX} {X : Cx}
def gInsert (o : Sl) (ss : List Sl) (m : List MO) : M Sl := match o, ss with
  | .own i, [.val (.int k), .val t] => match m[i]? with
    | some (.lst ts) => if ts.length < SZ ∧ 0 ≤ k ∧ k ≤ 1000000 then rM (.val .non) (m.set i (.lst (ts.take k.toNat ++ [t] ++ ts.drop k.toNat))) else none
    | _ => none
  | _, _ => none
def gTru (s : Sl) (m : List MO) : Option Bool := match seqOf s m with
  | some ts => some (!ts.isEmpty)
  | none => match s with
    | .val .non => some false
    | .val (.bl b) => some b
    | .val (.int i) => some (i != 0)
    | .val (.str y) => if y.length ≤ SZ then some ((y.length : Int) != 0) else none
    | _ => none
theorem isEmpty_rp {F : Hp} {xs : List V} {ts : List T} (r : RpL K F xs ts) : ts.isEmpty = xs.isEmpty := by cases r <;> rfl
theorem gTru_at {F : Hp} {A : List Addr} {m : List MO} {H : Hp} {s : Sl} {x : V} {k : Bool} (o : Objs K F A m H) (r : RpS K F A x s) (e : gTru s m = some k) : TruV K x H k := by
  unfold gTru at e
  split at e
  · rename_i ts es
    cases e
    obtain ⟨a, xs, rfl, h1, h2⟩ := seqOf_at o r es
    rw [isEmpty_rp h2]
    exact h1.elim (fun h => .inl ⟨xs, h, rfl⟩) fun h => .inr (.inl ⟨xs, h, rfl⟩)
  · split at e
    · cases r; cases e; exact rfl
    · cases r; cases e; exact rfl
    · cases r; cases e; exact rfl
    · split at e
      · rename_i hz
        cases r; cases e; exact ⟨sz_le hz, rfl⟩
      · cases e
    · cases e
def vTruth (f : VE) : VT := fun s => bM (f s) fun r m => match gTru r m with
  | some b => rM b m
  | none => none
theorem lt_truth {f : VE} {σ : L2.St} {H : Hp} {Q : Bool → Hp → Prop} (h : LT K W (vTruth f) σ H Q) : LE K W f σ H fun x H' => ∃ k, TruV K x H' k ∧ Q k H' := by
  obtain ⟨F, A, ρ, m, w, g⟩ := h
  refine ⟨F, A, ρ, m, w, (Got.bind (R1 := rS K) g).mono fun x H1 ⟨F1, A1, m1, a, n, w1, ra, q⟩ => ?_⟩
  split at q
  · rename_i b e
    exact ⟨b, gTru_at w1.os ra e, q.now w1 rfl⟩
  · exact none_got q
theorem pt_vtruth {e : Expr} {f : VE} (h : PE X e (LE X.K W f)) (he : ∀ whole, isTrue e X.env whole = (do let v ← whole; standAt e.pos; holding [v] (truthy v)) := by intro _; rfl) : PT X e (LT X.K W (vTruth f)) := PT.imp (pt_truth h he) fun _ _ _ => lt_truth
def okOf (r : M Sl) : M Sl := match r with
  | some (.ok s, m) => rM s m
  | _ => none
structure PR (P : Program) (w : World) (K : PySem.W.Frag) (mg : Str → Option Value) (base : Heap) (k : Nat) (C : Addr) (f : Str) (vf : VF) where
  p : Addr
  g : Addr
  fd : FuncData
  ps : List Str
  cl : Cls K C
  po : PropOf K C f p g
  fn : FnOk P w K mg base (L2.CX P w) k g fd ps (SpV K 1 vf)
  b : Binds K fd ps []
def vProp (C : Addr) (vf : VF) (fo : VE) : VE := fun s => bM (fo s) fun o m1 => match insOf o m1 with
  | some (D, _) => if D = C then okOf (callM vf [o] m1) else none
  | none => none
section
variable {a b : Expr} {fa fb : VE} {pos : Pos}
end
end
end Vs
end
section
namespace Vs
open PySem PySem.Spec PyProof.Rows L2
variable [WW]
section
variable {K : PySem.W.Frag} {W : WX} {X : Cx}
def vLstO (f : VA) : VE := fun s => bM (f s) fun ss m => if ss.length ≤ SZ then rM (.own m.length) (m ++ [.lsO ss]) else none
def gSetO (ρ : List (Option Sl)) (v o k : Sl) (m : List MO) : R := match o, k with
  | .own j, .val (.int i) => match m[j]? with
    | some (.lsO ss) => match ixN ss.length i with
      | some p => some (.nx, ⟨ρ, m.set j (.lsO (ss.set p v))⟩)
      | none => none
    | _ => none
  | _, _ => none
def vSetO (fo fi fv : VE) : VS := fun s => bS s.ρ (fv s) fun v m1 => bS s.ρ (fo ⟨s.ρ, m1⟩) fun o m2 => bS s.ρ (fi ⟨s.ρ, m2⟩) fun k m3 => gSetO s.ρ v o k m3
end
end Vs
end
section
namespace Vs
open PySem PySem.Spec PyProof.Rows L2
structure LamP (sc scope : Scope) (ps : List Str) : Prop where
  kind : scope.kind = .function
  co : scope.isCoroutine = false
  gen : scope.isGenerator = false
  par : ∀ p ∈ ps, scope.names.lookup p = some .local
  own : ∀ y ∈ scope.names, y.2 = .local → y.1 ∈ ps
  ncell : ∀ y ∈ scope.names, y.2 ≠ .cell
  free : ∀ y ∈ scope.names, y.2 = .free → sc.names.lookup y.1 = some .cell ∨ sc.names.lookup y.1 = some .free
  nd : ps.Nodup
def lamCxP (X : Cx) (A : Around) (outer : List Env) (s : Shared) (H : Hp) (E : XK) (scope : Scope) (f c' : Addr) (ps : List Str) : Cx := { LamX.lamCx X A outer s H E scope f c' with N := X.N ++ ps }
section
variable {X : Cx} {pins : List (Addr × Obj)} {σ : L2.St} {H HZ : Hp} {s s1 : Shared}
end
section
variable {X : Cx} {pins : List (Addr × Obj)} {σ : L2.St} {H : Hp} {s : Shared}
end
variable [WW]
section
variable {K : PySem.W.Frag} {F : Hp} {A : List Addr} {ρ : List (Option Sl)} {m : List MO} {σ : L2.St} {H : Hp} {P : Addr} {q : Str}
end
abbrev WW.at_ (g : Hp) : WW := ⟨WW.p, WW.w, g, WW.tb⟩
section
variable {K : PySem.W.Frag} {W : WX}
end
def Acts (Z : Cx) (fl : Addr) (sp : Sp) : Prop := ∀ (pins : List (Addr × Obj)) (σ : L2.St) (H : Hp) (s : Shared), Inv Z pins σ H s → PySem.W.FnAt fl s.heap ∧
  ∀ (us : List Value) (vs : List V) (Q : VK) (E : XK), Vals vs us → sp vs H Q E → codeAny (model Z.prog Z.w) Z.A (.call (.ref fl) ⟨us, []⟩) (CR (L2.CX Z.prog Z.w) Z.stack Z.prog Z.w H s Q E) s
def vCallF (i : Nat) (fl : Addr) (vf : VF) (fa : VA) : VE := fun s => match s.ρ[i]? with
  | some (some (.val (.cst (.ref f)))) => if f = fl then bM (fa s) fun ss m => callM vf ss m else none
  | _ => none
section
variable {X : Cx} {W : WX}
end
structure FnLam (P : Program) (w : World) (K : PySem.W.Frag) (mg : Str → Option Value) (base : Heap) (k : Nat) (f : Addr) (fd : FuncData) (ps : List Str) (np nl : Nat) (vfG : Addr → VF → VF) : Prop where
  go : ∀ (B : Around) (up : List Env) (t : Shared) (G : Hp) (ar : Args) (xs : List Value) (ws : List V) (R : VK) (Ex : XK) (fl : Addr) (vf : VF), Room k B → Env0 P w K mg base B up t G → BindsTo t fd ar (ps.zip xs) → Vals ws xs →
    (∀ (N : List Str) (qual : Str) (scope : Scope) (cdv : Value), Acts (cxOf (L2.CX P w) P w K mg base N qual scope f cdv B up t G Ex) fl (SpV K nl vf)) → SpV K np (vfG fl vf) ws G R Ex → codeAny (model P w) B (.call (.ref f) ar) (CR (L2.CX P w) up P w G t R Ex) t
section
variable {P : Program} {w : World} {K : PySem.W.Frag} {mg : Str → Option Value} {base : Heap}
end
def capO : Option Sl → Option Sl
  | some (.val t) => some (.val t)
  | _ => none
def capS (ρ : List (Option Sl)) : List (Option Sl) := ρ.map capO
def lamF (fe : VE) (ρ : List (Option Sl)) : VF := fun args m => fe ⟨ρ ++ args.map some, m⟩
section
variable {X : Cx} {pins : List (Addr × Obj)} {σ : L2.St} {F H : Hp} {A : List Addr} {ρ : List (Option Sl)} {m : List MO} {s : Shared}
end
abbrev cst0 : Sl := .val (.cst (.ref 0))
structure FL (P : Program) (w : World) (K : PySem.W.Frag) (mg : Str → Option Value) (base : Heap) (x : Str) (k np nl : Nat) (vfG : Addr → VF → VF) where
  a : Addr
  fd : FuncData
  ps : List Str
  m : mg x = some (.ref a)
  kp : PySem.W.keepIn K (.ref a) = true
  b : Binds K fd ps []
  len : ps.length = np
  g : ∀ g : Hp, @FnLam (WW.at_ g) P w K mg base k a fd ps np nl vfG
  ind : ∀ (f : Addr) (vf : VF) (args : List Sl) (m : List MO), args.length + 1 = np → vfG f vf (args ++ [.val (.cst (.ref f))]) m = vfG 0 vf (args ++ [cst0]) m
def vLam0 (vfG : Addr → VF → VF) (fe : VE) : VE := fun s => callM (vfG 0 (lamF fe (capS s.ρ))) [cst0] s.m
def vLam1 (vfG : Addr → VF → VF) (fe f1 : VE) : VE := fun s => bM (f1 s) fun a m1 => callM (vfG 0 (lamF fe (capS s.ρ))) [a, cst0] m1
def vLam2 (vfG : Addr → VF → VF) (fe f1 f2 : VE) : VE := fun s => bM (f1 s) fun a m1 => bM (f2 ⟨s.ρ, m1⟩) fun b m2 => callM (vfG 0 (lamF fe (capS s.ρ))) [a, b, cst0] m2
structure LamOk (X : Cx) (c P : Addr) (params : Arguments) (body : Expr) (scope : Scope) (ps : List Str) (kb : Nat) (fe : VE) : Prop where
  TB : LamX.TabB X.base X.mg c P
  code : X.env.code = .ref c
  tb : (P, X.env.qual ++ "<lambda>") ∈ WW.tb
  one : ∀ p ∈ WW.tb, p.1 = P → p.2 = X.env.qual ++ "<lambda>"
  L : LamP X.env.scope scope ps
  new : ∀ p ∈ ps, p ∉ X.N
  dflt : defaultsOf params X.env = ([], [])
  bind : ∀ (q : Str) (cl : List (Str × Addr)) (pm cv ctv : Value) (us : List Value), us.length = ps.length → bindArgs (PySem.W.kla_fn "<lambda>" q params body scope cl pm cv ctv) ⟨us, []⟩ = pure (ps.zip us)
  run : ∀ (g : Hp) (A : Around) (outer : List Env) (s : Shared) (H : Hp) (E : XK) (f c' : Addr), Room kb (A.deeper (LamX.lamEnv X scope s.heap.objs.size f c')) → PE (lamCxP X A outer s H E scope f c' ps) body (@LE (WW.at_ g) X.K (fun cls d _ H => E cls d H) fe)
section
variable {X : Cx} {W : WX} {x : Str} {k kb np : Nat} {vfG : Addr → VF → VF} {c P : Addr} {params : Arguments} {body : Expr} {scope : Scope} {ps : List Str} {fe : VE} {lpos p pos : Pos}
end
section
variable {P : Program} {w : World} {K : PySem.W.Frag} {mg : Str → Option Value} {base : Heap}
end
end Vs
end
section
namespace Vs
open PySem PySem.Spec PyProof.Rows L2
section
variable {X : Cx}
end
section
variable [WW]
variable {X : Cx} {W : WX}
end
end Vs
end
section
namespace Vs
open PySem PySem.W PySem.Calls PyProof.Rows
noncomputable abbrev hEnd (p : Program) (M : Nat) (b : Bool) (w : World) (os : OsState) : Option SharedT := HeadRun.endF (HeadRun.stepQ (HeadRun.denQ HeadRun.tabQ) p (w.withFollow "special-get-raises" b)) M p (w.withFollow "special-get-raises" b) os
theorem map_three {α β γ δ : Type} {x : Option α} {f : α → β} {g : α → γ} {h : α → δ} {b : β} {c : γ} {d : δ} (h1 : x.map f = some b) (h2 : x.map g = some c) (h3 : x.map h = some d) : x.map (fun s => (f s, g s, h s)) = some (b, c, d) := by
  cases x with
  | none => cases h1
  | some s =>
    have e1 := Option.some.inj h1
    have e2 := Option.some.inj h2
    have e3 := Option.some.inj h3
    show some (f s, g s, h s) = _
    rw [e1, e2, e3]
theorem headC {r : OpenRow} {q : Program} {K : Params → Frag} {as : List Addr} (ek : ∀ P, as = (K P).map (·.1)) {M : Nat} {loose : List PySem.Str} {d : DefRec}
    (e : opening r.prog = plainProg r.prog.main.scope.names) (f : ∀ s, fenceModules? r.prog s = some s)
    (r1 : ∀ (b : Bool) (w : World) (os : OsState), (hEnd r.prog M b w os).map (fun s => HeadRun.looksF r.prog (boot_heap (w.withFollow "special-get-raises" b).params) s.abs) = some true)
    (r2 : ∀ (b : Bool) (w : World) (os : OsState), (hEnd r.prog M b w os).map (fun s => HeadRun.seenQ q loose (importedModules r.prog.main.body) (fun s => xlAt q [] s && recOk r.toRowW.records s) s.abs) = some (openGood q loose))
    (r3 : ∀ (b : Bool) (w : World) (os : OsState), (hEnd r.prog M b w os).map (fun s => as.map (HeadRun.getT s)) = some ((K (w.withFollow "special-get-raises" b).params).map fun x => some x.2))
    (hdef : defOf q r.name = some (d, [])) (hp : r.prog.theDef r.name = some (d.params, d.body, d.scope)) (hk : kwWritten? d.params.kwonlyargs d.params.kw_defaults = some [])
    (hwr : (!r.writes || r.records.isEmpty) = true) (k1 : r.wellSaid = true) (ok : (chainsOk q && opensWell r.prog && (frees r.toRowW && r.within.isEmpty)) = true) (hb : r.prog.bare) (hw : r.toRowW.promised)
    (call : WalkO q loose (XL q []) (kHook K as ek).says r.toRowW d [] fun f vs => PySem.call f vs) : r.Holds :=
  HeadRun.head_any (H := kHook K as ek) (ob := fun s => as.map (HeadRun.getT s)) (fun s => List.map_congr_left fun a _ => HeadRun.getT_eq s a) e f (fun w os => by
    have z := map_three (r1 (w.params.followText "special-get-raises") w os) (r2 (w.params.followText "special-get-raises") w os) (r3 (w.params.followText "special-get-raises") w os)
    unfold hEnd at z
    rw [World.withFollow_self] at z
    exact z) hdef hp hk hwr k1 ok hb hw call
end Vs
end
section
namespace Vs
open PySem PySem.W PyProof.Rows
abbrev hq : PySem.Program := PySem.W.view PySem.Challenge.pw_outermost_k35_stacks_in_an_order [50]
def hlo : List PySem.Str := ((["_wall", "WrapError", "InvalidRow", "InvalidStack", "InvalidText", "InvalidOrder", "NoRow", "is_integer", "is_sequence", "KEPT_ANSWERS", "LIVES", "MOST_ASKED", "MOST_TRIES", "FAULTS", "Row", "Keep", "Tries", "Limit", "Leave", "Soft", "Count", "Lend", "is_one_of", "check_argument", "every_row", "Stack", "rows_of", "rows_in", "check_index", "stack_of"] : List PySem.Str) ++ (["is_order", "check_order", "_law_source", "_law_draw", "_law_pick", "_law_mixed", "_law_row", "_law_rows", "_law_lot_rows", "_law_row_text", "_law_text", "_law_made_rows", "_law_orders", "_law_heard"] : List PySem.Str))
local macro_rules
  | `(tactic| o_head ($_ $_ $_ $_)) => `(tactic| assumption)
  | `(tactic| o_head ($_ $_ $_ $_ $_)) => `(tactic| assumption)
theorem hk (h : (OpenLaw.row PySem.Challenge.rw_outermost_k35_stacks_in_an_order).Holds) : True := by
  have h1 : (OpenLaw.row PySem.Challenge.rw_outermost_k35_stacks_in_an_order).Holds := by k_head
  trivial
def hP : Params := { strHash := fun _ => 0, shareClass := fun _ => 0, mergeTok := id, idOf := fun _ => 0, idOfShared := fun _ _ => 0, followText := fun _ => false, idOfImm := fun _ => 0 }
noncomputable def hAs : List Addr := (Vs.hk.heap_1 Vs.hP).map (·.1)
theorem hAs_ok (P : Params) : Vs.hAs = (Vs.hk.heap_1 P).map (·.1) := by kernel_rfl
theorem hr1_false (w : World) (os : OsState) : (Vs.hEnd PySem.Challenge.pw_outermost_k35_stacks_in_an_order 5331 false w os).map (fun s => HeadRun.looksF PySem.Challenge.pw_outermost_k35_stacks_in_an_order (boot_heap (w.withFollow "special-get-raises" false).params) s.abs) = some true := by kernel_rfl
theorem hr2_false (w : World) (os : OsState) : (Vs.hEnd PySem.Challenge.pw_outermost_k35_stacks_in_an_order 5331 false w os).map (fun s => HeadRun.seenQ Vs.hq Vs.hlo (importedModules PySem.Challenge.pw_outermost_k35_stacks_in_an_order.main.body) (fun s => xlAt Vs.hq [] s && recOk (OpenLaw.row PySem.Challenge.rw_outermost_k35_stacks_in_an_order).toRowW.records s) s.abs) = some (openGood Vs.hq Vs.hlo) := by kernel_rfl
theorem hr3_false (w : World) (os : OsState) : (Vs.hEnd PySem.Challenge.pw_outermost_k35_stacks_in_an_order 5331 false w os).map (fun s => Vs.hAs.map (HeadRun.getT s)) = some ((Vs.hk.heap_1 (w.withFollow "special-get-raises" false).params).map fun x => some x.2) := by kernel_rfl
theorem hr1_true (w : World) (os : OsState) : (Vs.hEnd PySem.Challenge.pw_outermost_k35_stacks_in_an_order 5331 true w os).map (fun s => HeadRun.looksF PySem.Challenge.pw_outermost_k35_stacks_in_an_order (boot_heap (w.withFollow "special-get-raises" true).params) s.abs) = some true := by kernel_rfl
theorem hr2_true (w : World) (os : OsState) : (Vs.hEnd PySem.Challenge.pw_outermost_k35_stacks_in_an_order 5331 true w os).map (fun s => HeadRun.seenQ Vs.hq Vs.hlo (importedModules PySem.Challenge.pw_outermost_k35_stacks_in_an_order.main.body) (fun s => xlAt Vs.hq [] s && recOk (OpenLaw.row PySem.Challenge.rw_outermost_k35_stacks_in_an_order).toRowW.records s) s.abs) = some (openGood Vs.hq Vs.hlo) := by kernel_rfl
theorem hr3_true (w : World) (os : OsState) : (Vs.hEnd PySem.Challenge.pw_outermost_k35_stacks_in_an_order 5331 true w os).map (fun s => Vs.hAs.map (HeadRun.getT s)) = some ((Vs.hk.heap_1 (w.withFollow "special-get-raises" true).params).map fun x => some x.2) := by kernel_rfl
end Vs
end
section
namespace Vs
open PySem PySem.Spec PyProof.Rows L2
variable [WW]
section
variable {K : PySem.W.Frag} {W : WX} {X : Cx}
theorem wd_cutO {F F' : Hp} {A A' : List Addr} {H H' : Hp} {ρ : List (Option Sl)} {m m' : List MO} {σ : L2.St} (out : Out Sl) (w : Wd K F A ρ m σ H) (n : Nxt F A H F' A' H') (w' : Wd K F' A' ρ m' σ H') :
    ∃ A2, Nxt F A H F' A2 H' ∧ Wd K F' A2 ρ (cutO m.length out m') σ H' ∧ ∀ r v, out = .ok r → RpS K F' A' v r → RpS K F' A2 v r := by
  unfold cutO
  by_cases h : m.length ≤ m'.length ∧ outUnder m.length out = true ∧ (m'.take m.length).all (moUnder m.length) = true
  · rw [if_pos h]
    obtain ⟨n2, o2⟩ := objs_trim n w.os w'.os h.1 h.2.2
    refine ⟨A, n2, ⟨o2, fun i r e => ?_, w'.slen⟩, fun r v e rv => by subst e; exact rpS_under n.pre w.os.len h.2.1 rv⟩
    obtain ⟨v, _, r1⟩ := w.slot i r e
    obtain ⟨v', e', r2⟩ := w'.slot i r e
    refine ⟨v', e', ?_⟩
    cases r with
    | val t => exact r2
    | own j =>
      obtain ⟨a, h1, _⟩ := r1
      exact rpS_under (k := m.length) n.pre w.os.len (decide_eq_true (by rw [← w.os.len]; exact (List.getElem?_eq_some_iff.mp h1).1)) r2
  · rw [if_neg h]
    exact ⟨A', n, w', fun _ _ _ rv => rv⟩
def vCutE (f : VE) : VE := fun s => match f s with
  | some (o, m') => some (o, cutO s.m.length o m')
  | none => none
theorem le_cut {f : VE} {σ : L2.St} {H : Hp} {Q : VK} (h : LE K W (vCutE f) σ H Q) : LE K W f σ H Q := by
  obtain ⟨F, A, ρ, m, w, o, m', e, h⟩ := h
  refine ⟨F, A, ρ, m, w, ?_⟩
  unfold vCutE at e
  cases z : f ⟨ρ, m⟩ with
  | none => rw [z] at e; cases e
  | some p =>
    obtain ⟨o1, m1⟩ := p
    rw [z] at e
    cases e
    refine ⟨_, _, rfl, ?_⟩
    cases o with
    | ok a =>
      intro F' A' b H' n w' r
      obtain ⟨A2, n2, w2, r2⟩ := wd_cutO (.ok a) w n w'
      exact h F' A2 b H' n2 w2 (r2 _ _ rfl r)
    | ex C fs =>
      intro F' A' d vs H' n w' r hd
      obtain ⟨A2, n2, w2, _⟩ := wd_cutO (.ex C fs) w n w'
      exact h F' A2 d vs H' n2 w2 r hd
theorem pe_vcut {e : Expr} {f : VE} (h : PE X e (LE X.K W f)) : PE X e (LE X.K W (vCutE f)) := PE.imp h fun _ _ _ => le_cut
def wipe : List Nat → List (Option Sl) → List (Option Sl)
  | [], ρ => ρ
  | i :: r, ρ => wipe r (ρ.set i none)
theorem Wd.wipe {F : Hp} {A : List Addr} {m : List MO} {σ : L2.St} {H : Hp} : ∀ {L : List Nat} {ρ : List (Option Sl)}, Wd K F A ρ m σ H → Wd K F A (wipe L ρ) m σ H
  | [], _, w => w
  | i :: r, ρ, w => Wd.wipe (L := r) ⟨w.os, fun j s z => by
      by_cases e : i = j
      · subst e
        have hl : i < ρ.length := by
          have := (List.getElem?_eq_some_iff.mp z).1
          rw [List.length_set] at this
          exact this
        rw [List.getElem?_set_self hl] at z
        cases z
      · rw [List.getElem?_set_ne e] at z
        exact w.slot j s z, by rw [List.length_set]; exact w.slen⟩
def slO (k : Nat) : Option Sl → Bool
  | some s => slUnder k s
  | none => true
def cutSt (k : Nat) (s : S) : S := if k ≤ s.m.length ∧ s.ρ.all (slO k) = true ∧ (s.m.take k).all (moUnder k) = true then ⟨s.ρ, s.m.take k⟩ else s
theorem wd_cutSt {F F' : Hp} {A A' : List Addr} {H H' : Hp} {ρ : List (Option Sl)} {m : List MO} {s' : S} {σ σ' : L2.St} (w : Wd K F A ρ m σ H) (n : Nxt F A H F' A' H') (w' : Wd K F' A' s'.ρ s'.m σ' H') :
    ∃ A2, Nxt F A H F' A2 H' ∧ Wd K F' A2 (cutSt m.length s').ρ (cutSt m.length s').m σ' H' := by
  unfold cutSt
  by_cases h : m.length ≤ s'.m.length ∧ s'.ρ.all (slO m.length) = true ∧ (s'.m.take m.length).all (moUnder m.length) = true
  · rw [if_pos h]
    obtain ⟨n2, o2⟩ := objs_trim n w.os w'.os h.1 h.2.2
    refine ⟨A, n2, ⟨o2, fun i r e => ?_, w'.slen⟩⟩
    obtain ⟨v', e', r2⟩ := w'.slot i r e
    exact ⟨v', e', rpS_under (k := m.length) n.pre w.os.len (List.all_eq_true.mp h.2.1 (some r) (List.mem_of_getElem? e)) r2⟩
  · rw [if_neg h]
    exact ⟨A', n, w'⟩
def vBody (L : List Nat) (f : VS) : VS := fun s => match f s with
  | some (.nx, s') => some (.nx, cutSt s.m.length ⟨wipe L s'.ρ, s'.m⟩)
  | some (.ct, s') => some (.ct, cutSt s.m.length ⟨wipe L s'.ρ, s'.m⟩)
  | r => r
theorem ls_body {L : List Nat} {f : VS} {D : Ends} {σ : L2.St} {H : Hp} (h : LS K W (vBody L f) D σ H) : LS K W f D σ H := by
  obtain ⟨F, A, ρ, m, w, fl, s', e, h⟩ := h
  refine ⟨F, A, ρ, m, w, ?_⟩
  unfold vBody at e
  match z : f ⟨ρ, m⟩, e with
  | none, e => cases e
  | some (.nx, s1), e =>
    cases e
    refine ⟨_, _, rfl, fun F' A' σ' H' n w' => ?_⟩
    obtain ⟨A2, n2, w2⟩ := wd_cutSt (s' := ⟨wipe L s1.ρ, s1.m⟩) w n w'.wipe
    exact h F' A2 σ' H' n2 w2
  | some (.ct, s1), e =>
    cases e
    refine ⟨_, _, rfl, fun F' A' σ' H' n w' => ?_⟩
    obtain ⟨A2, n2, w2⟩ := wd_cutSt (s' := ⟨wipe L s1.ρ, s1.m⟩) w n w'.wipe
    exact h F' A2 σ' H' n2 w2
  | some (.bk, s1), e => cases e; exact ⟨_, _, rfl, h⟩
  | some (.rt r, s1), e => cases e; exact ⟨_, _, rfl, h⟩
  | some (.ex C fs, s1), e => cases e; exact ⟨_, _, rfl, h⟩
theorem pss_vbody {sts : List Stmt} {f : VS} (L : List Nat) (h : PSs X sts (LS X.K W f)) : PSs X sts (LS X.K W (vBody L f)) := PSs.imp h fun _ _ _ => ls_body
def vPre (L : List Nat) (f : VS) : VS := fun s => f ⟨wipe L s.ρ, s.m⟩
theorem ls_pre {L : List Nat} {f : VS} {D : Ends} {σ : L2.St} {H : Hp} (h : LS K W (vPre L f) D σ H) : LS K W f D σ H := by
  obtain ⟨F, A, ρ, m, w, r⟩ := h
  exact ⟨F, A, _, m, w.wipe (L := L), r⟩
theorem ps_vpre {st : Stmt} {f : VS} (L : List Nat) (h : PS X st (LS X.K W f)) : PS X st (LS X.K W (vPre L f)) := PS.imp h fun _ _ _ => ls_pre
end
end Vs
end
section
namespace Vs
open PySem PySem.Spec PyProof.Rows L2
variable [WW]
theorem u66 {k : Nat} {A : Around} (r : Room k A) : A.units + 66 < cLine := by have := r.un; omega
def reprOk (d : PyData) : Bool := match d with
  | .list _ => PyData.showable d && !PyData.hasDict d && decide (d.depth ≤ 64) && decide ((PyData.shown d).length ≤ SZ)
  | .tuple _ => PyData.showable d && !PyData.hasDict d && decide (d.depth ≤ 64) && decide ((PyData.shown d).length ≤ SZ)
  | .str y => decide ((reprText y).length ≤ SZ)
  | .none => true
  | .int i => decide (i.natAbs.log2 < 1920)
  | .bool _ => true
  | _ => false
def gRepr : List Sl → List MO → M Sl
  | [s], m => match datOf s m with
    | some d => if reprOk d = true then rM (.val (.str (PyData.shown d))) m else none
    | none => none
  | _, _ => none
section
variable {K : PySem.W.Frag} {W : WX} {X : Cx}
end
abbrev rStrF : List V → Hp → VK → Prop := fun xs H Q => (rStrI xs H Q ∨ ∃ a, xs = [.str a] ∧ Q (.str a) H) ∨ (xs = [.non] ∧ Q (.str "None") H) ∨ ∃ b, xs = [.bl b] ∧ Q (.str (if b then "True" else "False")) H
def gStrF : List Sl → List MO → M Sl
  | [.val (.int i)], m => if i.natAbs.log2 < 1920 then rM (.val (.str (toString i))) m else none
  | [.val (.str x)], m => rM (.val (.str x)) m
  | [.val .non], m => rM (.val (.str "None")) m
  | [.val (.bl b)], m => rM (.val (.str (if b then "True" else "False"))) m
  | _, _ => none
section
variable {K : PySem.W.Frag} {X : Cx}
theorem call_str_non : CallR X (.type "str") (fun xs H Q => xs = [.non] ∧ Q (.str "None") H) := by
  intro pins s σ H xs us Q I r h
  obtain ⟨rfl, q⟩ := h
  obtain ⟨u, rfl, ru⟩ := r.one
  cases (show u = Value.none from ru)
  exact PySem.P.str_of_none ⟨.str _, H, I.tok _, ⟨_, rfl⟩, q⟩
theorem call_str_bl : CallR X (.type "str") (fun xs H Q => ∃ b, xs = [.bl b] ∧ Q (.str (if b then "True" else "False")) H) := by
  intro pins s σ H xs us Q I r h
  obtain ⟨b, rfl, q⟩ := h
  obtain ⟨u, rfl, ru⟩ := r.one
  cases (show u = Value.bool b from ru)
  exact PySem.P.str_of_bool ⟨.str _, H, I.tok _, ⟨_, rfl⟩, q⟩
theorem call_strF : CallR X (.type "str") rStrF := CallR.or' (CallR.or' call_str_int SkE.call_str_str) (CallR.or' call_str_non call_str_bl)
theorem cv_strF : CallV K rStrF gStrF := by
  intro W F A ρ m σ H xs ss Q w rs g
  unfold gStrF at g
  split at g
  · split at g
    · rename_i h
      obtain ⟨x, rfl, rx⟩ := rpSs1 rs
      cases rx
      exact .inl (.inl ⟨_, rfl, h, g.now w (.str _)⟩)
    · exact none_got g
  · obtain ⟨x, rfl, rx⟩ := rpSs1 rs
    cases rx
    exact .inl (.inr ⟨_, rfl, g.now w (.str _)⟩)
  · obtain ⟨x, rfl, rx⟩ := rpSs1 rs
    cases rx
    exact .inr (.inl ⟨rfl, g.now w (.str _)⟩)
  · obtain ⟨x, rfl, rx⟩ := rpSs1 rs
    cases rx
    exact .inr (.inr ⟨_, rfl, g.now w (.str _)⟩)
  · exact none_got g
end
section
variable {W : WX} {X : Cx}
end
structure FnG (P : Program) (w : World) (K : PySem.W.Frag) (mg : Str → Option Value) (base : Heap) (k : Nat) (f : Addr) (fd : FuncData) (ps : List Str) (sp : Sp) : Prop where
  arity : ∀ ws G R Ex, sp ws G R Ex → ws.length = ps.length
  go : ∀ (B : Around) (up : List Env) (t : Shared) (G : Hp) (ar : Args) (xs : List Value) (ws : List V) (R : VK) (Ex : XK), Room k B → B.guards = some [] → Env0 P w K mg base B up t G → BindsTo t fd ar (ps.zip xs) → Vals ws xs → sp ws G R Ex → codeAny (model P w) B (.call (.ref f) ar) (CR (L2.CX P w) up P w G t R Ex) t
section
variable {P : Program} {w : World} {K : PySem.W.Frag} {mg : Str → Option Value} {base : Heap}
end
section
variable {X : Cx} {W : WX} {k : Nat} {f : Addr} {fd : FuncData} {ps : List Str} {sp : Sp} {E : L2.St → XK} {x : Str} {p pos : Pos} {e : Expr} {es : List Expr} {t : TA}
structure DG (P : Program) (w : World) (K : PySem.W.Frag) (mg : Str → Option Value) (base : Heap) (x : Str) (k np : Nat) (vf : VF) where
  a : Addr
  fd : FuncData
  ps : List Str
  m : mg x = some (.ref a)
  kp : PySem.W.keepIn K (.ref a) = true
  g : FnG P w K mg base k a fd ps (SpV K np vf)
  b : Binds K fd ps []
end
end Vs
end
section
namespace Vs
open PySem PySem.Spec PyProof.Rows L2
variable [WW]
section
variable {K : PySem.W.Frag}
end
end Vs
end
section
namespace Vs
open PySem PySem.Spec PyProof.Rows L2
section
variable {prog : Program} {w : World} {A : Around} {E : Value → Shared → Prop} {s : Shared} {d : Addr} {es : Array DictEntry} {ep : Nat}
end
section
variable {X : Cx} {pins : List (Addr × Obj)} {σ : L2.St} {H : Hp} {s : Shared}
end
section
variable {P : Program} {w : World} {K : PySem.W.Frag} {tg : Expr} {d : Addr} {o : Obj} {es : Array DictEntry} {ep : Nat}
end
variable [WW]
section
variable {K : PySem.W.Frag} {W : WX} {X : Cx}
def gKeysD : Sl → List MO → M (List T)
  | .own i, m => match m[i]? with
    | some (.dctL kvs) => rM (kvs.map (·.1)) m
    | _ => none
  | _, _ => none
def vKeysD (f : VE) : VI := fun s => bM (f s) gKeysD
def frzD (i : Nat) (s : S) : S := match s.ρ[i]? with
  | some (some (.own j)) => match s.m[j]? with
    | some (.dct kvs) => ⟨s.ρ, s.m.set j (.dctL kvs)⟩
    | _ => s
  | _ => s
def vFrzD (i : Nat) (f : VS) : VS := fun s => f (frzD i s)
end
end Vs
end
section
namespace Vs
open PySem PySem.Spec PyProof.Rows L2
end Vs
end
section
namespace Vs
open PySem PySem.Spec PyProof.Rows L2
section
variable {P : Program} {w : World} {K : PySem.W.Frag} {mg mb : Str → Option Value} {a : Addr} {t : Shared} {G : Hp}
structure Beg (a : Addr) (us : List Value) (t : Shared) (G : Hp) : Prop where
  only : Only G
  at_ : ∀ {b : Addr}, G b ≠ none → b = a
  lst : t.heap.get? a = some { cls := .type "list", data := .seq us.toArray }
end
end Vs
end
section
namespace Vs
open PySem PySem.Spec PyProof.Rows L2
variable [WW]
section
variable {K : PySem.W.Frag} {W : WX} {X : Cx}
def seqI (o : Sl) (m : List MO) : Option (List T) := match o with
  | .val (.tup ts) => some ts
  | _ => lsqOf o m
def gIndex (o a : Sl) (m : List MO) : M Sl := match (seqI o m).bind intsOf, a with
  | some ns, .val (.int k) => if k ∈ ns then rM (.val (.int (ns.idxOf k : Nat))) m else none
  | _, _ => none
def vIndex (fo fe : VE) : VE := fun s => bM (fo s) fun o m1 => if (seqI o m1).isSome = true then bM (fe ⟨s.ρ, m1⟩) fun a m2 => gIndex o a m2 else none
def gPartn (o : Sl) (ss : List Sl) (m : List MO) : M Sl := match o, ss with
  | .val (.str a), [.val (.str b)] => if (b.length == 0) = false ∧ a.length ≤ SZ then rM (.val (.pr [.str (Txt.partition a b).1, .str (Txt.partition a b).2.1, .str (Txt.partition a b).2.2])) m else none
  | _, _ => none
def gFmt (a : Sl) (m : List MO) : M Sl := match a with
  | .val (.str y) => if y.length ≤ SZ then rM (.val (.str y)) m else none
  | .val (.int i) => if i.natAbs.log2 < 1920 then rM (.val (.str (toString i))) m else none
  | _ => none
def vFmt (f : VE) : VE := fun s => bM (f s) gFmt
def vJs : List VE → Str → S → M Str
  | [], acc, s => rM acc s.m
  | f :: fs, acc, s => bM (f s) fun a m1 => match a with
    | .val (.str y) => if (acc ++ y).length ≤ SZ then vJs fs (acc ++ y) ⟨s.ρ, m1⟩ else none
    | _ => none
def vJoined (fs : List VE) : VE := fun s => bM (vJs fs Str.empty s) fun z m => rM (.val (.str z)) m
def hasB (j i : Str) : Bool := !(Builtin.Str.occurrences j i 0 j.length 1).isEmpty
def gInDT (neg : Bool) (a b : Sl) (m : List MO) : M Sl := match datOf a m, datOf b m with
  | some d, some (.list ds) => if SeqAt.shaped d = true ∧ SeqAt.shaped (.list ds) = true then rM (.val (.bl (if neg then !ds.any fun z => PyData.eqv z d else ds.any fun z => PyData.eqv z d))) m else none
  | some d, some (.tuple ds) => if SeqAt.shaped d = true ∧ SeqAt.shaped (.tuple ds) = true then rM (.val (.bl (if neg then !ds.any fun z => PyData.eqv z d else ds.any fun z => PyData.eqv z d))) m else none
  | _, _ => none
def gIn (neg : Bool) (a b : Sl) (m : List MO) : M Sl := match a, b with
  | .val (.str i), .val (.str j) => rM (.val (.bl (if neg then !hasB j i else hasB j i))) m
  | a, b => match gInFlat neg a b m with
    | some r => some r
    | none => gInDT neg a b m
def rInT (K : PySem.W.Frag) (neg : Bool) : R2 := fun x y H Q => ∃ d ds, Dp K H x d ∧ Dp K H y (.tuple ds) ∧ SeqAt.shaped d = true ∧ SeqAt.shaped (.tuple ds) = true ∧ Q (.bl (if neg then !ds.any fun z => PyData.eqv z d else ds.any fun z => PyData.eqv z d)) H
theorem op_inT (hu : X.A.units + 65 < cLine) : OpR X (compareOp .In) (rInT X.K false) := by
  intro pins s σ H x y v u Q I rx ry h
  obtain ⟨d, ds, hd, he, sd, se, q⟩ := h
  obtain ⟨as, r1⟩ := Dp.reads I d x v hd rx
  obtain ⟨bs, r2⟩ := Dp.reads I (.tuple ds) y u he ry
  exact SeqAt.in_tuple_reads r2 r1 (SeqAt.canLay_of_shaped se) (SeqAt.canLay_of_shaped sd) (room_in_shaped sd hu) ⟨.bl _, H, I, rfl, q⟩
theorem op_notInT (hu : X.A.units + 65 < cLine) : OpR X (compareOp .NotIn) (rInT X.K true) := by
  intro pins s σ H x y v u Q I rx ry h
  obtain ⟨d, ds, hd, he, sd, se, q⟩ := h
  obtain ⟨as, r1⟩ := Dp.reads I d x v hd rx
  obtain ⟨bs, r2⟩ := Dp.reads I (.tuple ds) y u he ry
  exact SeqAt.notIn_tuple_reads r2 r1 (SeqAt.canLay_of_shaped se) (SeqAt.canLay_of_shaped sd) (room_in_shaped sd hu) ⟨.bl _, H, I, rfl, q⟩
def rInL (K : PySem.W.Frag) (neg : Bool) : R2 := fun x y H Q => ∃ d ds, Dp K H x d ∧ Dp K H y (.list ds) ∧ SeqAt.shaped d = true ∧ SeqAt.shaped (.list ds) = true ∧ Q (.bl (if neg then !ds.any fun z => PyData.eqv z d else ds.any fun z => PyData.eqv z d)) H
def rInS (neg : Bool) : R2 := fun x y H Q => ∃ i j, x = .str i ∧ y = .str j ∧ Q (.bl (if neg then !hasB j i else hasB j i)) H
def rInA (K : PySem.W.Frag) (neg : Bool) : R2 := fun x y H Q => rInS neg x y H Q ∨ rIn K neg x y H Q ∨ rInL K neg x y H Q ∨ rInT K neg x y H Q
theorem op_inA (hu : X.A.units + 65 < cLine) : OpR X (compareOp .In) (rInA X.K false) := OpR.or (r := rInS false) (fun pins s σ H x y v u Q I rx ry h => op_in_str pins s σ H x y v u Q I rx ry h) (OpR.or op_in_seq (OpR.or (r := rInL X.K false) (op_inD hu) (op_inT hu)))
theorem op_notInA (hu : X.A.units + 65 < cLine) : OpR X (compareOp .NotIn) (rInA X.K true) := OpR.or (r := rInS true) (fun pins s σ H x y v u Q I rx ry h => op_notIn_str pins s σ H x y v u Q I rx ry h) (OpR.or op_notIn_seq (OpR.or (r := rInL X.K true) (op_notInD hu) (op_notInT hu)))
theorem ov_inA {neg : Bool} : OpV K (rInA K neg) (gIn neg) := by
  intro W F A ρ m σ H x y a b Q w ra rb g
  unfold gIn at g
  split at g
  · cases ra
    cases rb
    exact .inl ⟨_, _, rfl, rfl, g.now w (.bl _)⟩
  · cases e : gInFlat neg a b m with
    | some r =>
      simp only [e] at g
      exact .inr (.inl (ov_inFlat W F A ρ m σ H x y a b Q w ra rb (by rw [e]; exact g)))
    | none =>
      simp only [e] at g
      unfold gInDT at g
      split at g
      · rename_i d ds h1 h2
        split at g
        · rename_i h
          exact .inr (.inr (.inl ⟨d, ds, datOf_dp w.os ra h1, datOf_dp w.os rb h2, h.1, h.2, g.now w (.bl _)⟩))
        · exact none_got g
      · rename_i d ds h1 h2
        split at g
        · rename_i h
          exact .inr (.inr (.inr ⟨d, ds, datOf_dp w.os ra h1, datOf_dp w.os rb h2, h.1, h.2, g.now w (.bl _)⟩))
        · exact none_got g
      · exact none_got g
theorem pt_vnotin {a b : Expr} {fa fb : VE} {pos : Pos} (hu : X.A.units + 65 < cLine) (hm : behindInMarks .NotIn b = false) (ha : PE X a (LE X.K W fa)) (hb : PE X b (LE X.K W fb)) : PT X (.Compare a [.NotIn] [b] pos) (LT X.K W (vTest (vBin (gIn true) fa fb))) := pt_vcmp (op_notInA hu) ov_inA ha hb hm
theorem pe_vin {a b : Expr} {fa fb : VE} {pos : Pos} (hu : X.A.units + 65 < cLine) (hm : behindInMarks .In b = false) (ha : PE X a (LE X.K W fa)) (hb : PE X b (LE X.K W fb)) : PE X (.Compare a [.In] [b] pos) (LE X.K W (vBin (gIn false) fa fb)) := pe_vcmp (op_inA hu) ov_inA ha hb hm
theorem u65 {k : Nat} {A : Around} (r : Room k A) : A.units + 65 < cLine := by have := r.un; omega
end
end Vs
end
section
namespace Vs
open PySem PySem.Spec PyProof.Rows L2
variable [WW]
section
variable {K : PySem.W.Frag} {W : WX} {X : Cx}
end
end Vs
end
section
namespace Vs
open PySem PySem.Spec PyProof.Rows L2
section
variable {X : Cx}
end
variable [WW]
section
variable {K : PySem.W.Frag}
end
end Vs
end
section
namespace Vs
open PySem PySem.Spec PyProof.Rows L2
noncomputable def oneKd (u : Value) : PyProof.Rows.KeyKind where
  α := Unit
  blt _ _ := false
  irrefl _ := rfl
  trans _ _ _ h _ := h
  negTrans _ _ _ h := nomatch h
  total _ _ _ _ := rfl
  keyOf v := open Classical in if v = u then some () else none
  dflt := ()
def rSorted1 (K : PySem.W.Frag) : List V → Hp → VK → Prop := fun vs H Q => ∃ (a t : Addr), vs = [V.ref a] ∧ SqL K H a [V.ref t] ∧ SqT K H t [] ∧ ∀ p, H p = none → Q (.ref p) (upd H p (.lst [V.ref t]))
theorem cr_sorted1 {X : Cx} (hu : X.A.units + 66 < cLine) : CallR X (.builtin "sorted") (rSorted1 X.K) := by
  intro pins s σ H vs us Q I r h
  obtain ⟨a, t, rfl, hs, ht, q⟩ := h
  obtain ⟨its, rv, hl, hz⟩ := I.list hs
  rw [Vals.ref1 r]
  obtain ⟨tis, tv, tl, _⟩ := I.tuple ht
  cases tv
  cases rv with
  | cons rv rn =>
    cases rn
    rename_i u
    cases (show u = Value.ref t from rv)
    have S : PySem.W.SortsAt X.prog X.w X.A.in1.in1 { s with heap := PySem.W.sortingHeap (PySem.W.copyHeap s.heap [Value.ref t]) (s.heap.objs.size + 1) [Value.ref t] } (oneKd (.ref t)) [Value.ref t] := by
      refine ⟨fun v hv => ?_, PyProof.Rows.general', fun E x y a b Q ha hb hq => ?_, fun h2 => absurd h2 (by simp)⟩
      · rw [List.mem_singleton.mp hv]
        exact ⟨(), if_pos rfl⟩
      · have e1 : x = Value.ref t := by
          have ha : (open Classical in if x = Value.ref t then some () else none) = some a := ha
          by_cases c : x = Value.ref t
          · exact c
          · rw [if_neg c] at ha; cases ha
        have e2 : y = Value.ref t := by
          have hb : (open Classical in if y = Value.ref t then some () else none) = some b := hb
          by_cases c : y = Value.ref t
          · exact c
          · rw [if_neg c] at hb; cases hb
        subst e1 e2
        obtain ⟨o, ho, ho2⟩ := id tl
        have tl2 : Heap.IsTuple (PySem.W.sortingHeap (PySem.W.copyHeap s.heap [Value.ref t]) (s.heap.objs.size + 1) [Value.ref t]) t ([] : List Value).toArray := ⟨o, PySem.W.sorting_copy_old ho, ho2⟩
        have rc := Ob.RcOp.tuples_lt (A := X.A.in1.in1) (s := { s with heap := PySem.W.sortingHeap (PySem.W.copyHeap s.heap [Value.ref t]) (s.heap.objs.size + 1) [Value.ref t] }) (e := fun _ => true) (r := fun _ => false) tl2 tl2 (show X.A.units + 1 + 1 < cLine by omega) (fun j h1 => absurd h1 (by simp)) (fun j h1 => absurd h1 (by simp))
        refine PySem.W.kat_one _ _ ?_
        exact rc _ _ _ _ hq
    refine PySem.W.sorted_vals (κ := oneKd (.ref t)) hl.isList S (by show 1 ≤ sizeLine; decide) ?_
    have ev : PySem.W.sortVals (oneKd (.ref t)) false [Value.ref t] [Value.ref t] = [Value.ref t] := by
      unfold PySem.W.sortVals
      rw [show ([Value.ref t].zip [Value.ref t]) = [(Value.ref t, Value.ref t)] from rfl, List.mergeSort_singleton]
      rfl
    rw [ev]
    obtain ⟨ep, he'⟩ := PyProof.Rows.sortedAll_at s.heap [Value.ref t] [Value.ref t].toArray
    exact ⟨.ref _, upd H (s.heap.objs.size + 1) (.lst [V.ref t]), I.laid (t' := s.toks) (fun _ _ => PyProof.Rows.sortedAll_old) (Nat.le_succ _) ⟨by show 1 ≤ sizeLine; decide, [Value.ref t], ep, .cons rfl .nil, he'⟩, rfl, q _ (I.hok.fresh (Nat.le_succ _))⟩
end Vs
end
section
namespace Vs
open PySem PySem.Spec PyProof.Rows L2
section
variable {α : Type} {le : α → α → Bool}
def insD (le : α → α → Bool) (a : α) : List α → List α
  | [] => [a]
  | b :: r => if le a b = true then a :: b :: r else b :: insD le a r
def sortD (le : α → α → Bool) : List α → List α
  | [] => []
  | a :: r => insD le a (sortD le r)
theorem ins_app {a : α} {l2 : List α} (h2 : ∀ b ∈ l2, le a b = true) : ∀ {l1 : List α}, (∀ b ∈ l1, (!le a b) = true) → insD le a (l1 ++ l2) = l1 ++ a :: l2
  | [], _ => by
    cases l2 with
    | nil => rfl
    | cons b r => exact if_pos (h2 b (List.mem_cons_self ..))
  | b :: l1, h1 => by
    have hb := h1 b (List.mem_cons_self ..)
    rw [Bool.not_eq_true'] at hb
    show (if le a b = true then _ else b :: insD le a (l1 ++ l2)) = _
    rw [if_neg (by rw [hb]; exact Bool.false_ne_true), ins_app h2 fun c hc => h1 c (List.mem_cons_of_mem _ hc)]
    rfl
theorem sortD_eq (tr : ∀ a b c, le a b = true → le b c = true → le a c = true) (tot : ∀ a b, (le a b || le b a) = true) : ∀ l : List α, l.mergeSort le = sortD le l
  | [] => by simp [sortD]
  | a :: r => by
    obtain ⟨l1, l2, e1, e2, e3⟩ := List.mergeSort_cons tr tot a r
    have pw := List.pairwise_mergeSort tr tot (a :: r)
    rw [e1] at pw
    have h2 : ∀ b ∈ l2, le a b = true := (List.pairwise_cons.mp (List.pairwise_append.mp pw).2.1).1
    show _ = insD le a (sortD le r)
    rw [← sortD_eq tr tot r, e2, e1, ins_app h2 e3]
end
def rSortedD (K : PySem.W.Frag) : List V → Hp → VK → Prop := fun vs H Q => ∃ (β : Type) (bs : List β) (fv : β → V) (fd : β → PyData) (a : Addr), vs = [V.ref a] ∧ SqL K H a (bs.map fv) ∧ DpAll K H (bs.map fv) (bs.map fd) ∧
  PySem.W.AllAlike (bs.map fd) ∧ PySem.W.Sortable (bs.map fd) ∧ (∀ b ∈ bs, (fd b).depth ≤ 60) ∧ ∀ p, H p = none → Q (.ref p) (upd H p (.lst ((bs.mergeSort (PySem.W.dataLe false fd)).map fv)))
theorem each_of {β : Type} (fv : β → V) : ∀ {us : List Value} {bs : List β}, Vals (bs.map fv) us → PySem.W.EachIs (fun v b => RelV (fv b) v) us bs
  | [], [], _ => .nil
  | u :: us, [], h => by cases h
  | [], b :: bs, h => by cases h
  | u :: us, b :: bs, h => by
    cases h with
    | cons r t => exact .cons r (each_of fv t)
theorem of_each {β : Type} (fv : β → V) : ∀ {us : List Value} {bs : List β}, PySem.W.EachIs (fun v b => RelV (fv b) v) us bs → Vals (bs.map fv) us
  | _, _, .nil => .nil
  | _, _, .cons r t => .cons r (of_each fv t)
theorem cr_sortedD {X : Cx} (hu : X.A.units + 66 < cLine) : CallR X (.builtin "sorted") (rSortedD X.K) := by
  intro pins s σ H vs us Q I r h
  obtain ⟨β, bs, fv, fd, a, rfl, hs, hd, hal, hk, hdp, q⟩ := h
  obtain ⟨its, rv, hl, hz⟩ := I.list hs
  rw [Vals.ref1 r]
  obtain ⟨as, hr⟩ := Dp.readsAll I _ _ its hd rv
  have hz' : bs.length ≤ sizeLine := by rw [List.length_map] at hz; exact hz
  refine PySem.W.sorted_data (bs := bs) (enc := fd) (R := fun v b => RelV (fv b) v) hl.isList (each_of fv rv) (PySem.W.readsAll_each fd hr) hal hk hz' (fun b hb => by have := hdp b hb; omega) fun out hlen ho => ?_
  obtain ⟨ep, he'⟩ := PyProof.Rows.sortedAll_at s.heap its (List.toArray out)
  have hlo : ((bs.mergeSort (PySem.W.dataLe false fd)).map fv).length ≤ sizeLine := by
    rw [List.length_map, (List.mergeSort_perm _ _).length_eq]
    exact hz'
  exact ⟨.ref _, upd H (s.heap.objs.size + 1) (.lst ((bs.mergeSort (PySem.W.dataLe false fd)).map fv)), I.laid (t' := s.toks) (fun _ _ => PyProof.Rows.sortedAll_old) (Nat.le_succ _) ⟨hlo, out, ep, of_each fv ho, he'⟩, rfl, q _ (I.hok.fresh (Nat.le_succ _))⟩
def leD (p q : T × PyData) : Bool := PySem.W.dataLe false Prod.snd p q
def alikeB (ds : List PyData) : Bool := ds.all fun d => ds.all fun e => PySem.W.alike d e
def isTupB' : PyData → Bool
  | .tuple (_ :: _) => true
  | _ => false
def isOthB : PyData → Bool
  | .none => false
  | .tuple _ => false
  | _ => true
def sortB (ds : List PyData) : Bool := alikeB ds && (ds.all isTupB' || ds.all isOthB) && ds.all fun d => decide (d.depth ≤ 60)
theorem sortB_ok {ds : List PyData} (h : sortB ds = true) : PySem.W.AllAlike ds ∧ PySem.W.Sortable ds ∧ ∀ d ∈ ds, d.depth ≤ 60 := by
  unfold sortB alikeB at h
  simp only [Bool.and_eq_true, Bool.or_eq_true, List.all_eq_true, decide_eq_true_eq] at h
  obtain ⟨⟨h1, h2⟩, h3⟩ := h
  refine ⟨fun d hd e he => h1 d hd e he, ?_, h3⟩
  rcases h2 with h2 | h2
  · refine .inl fun d hd => ?_
    have := h2 d hd
    unfold isTupB' at this
    split at this
    · exact ⟨_, _, rfl⟩
    · cases this
  · refine .inr fun d hd => ?_
    have := h2 d hd
    unfold isOthB at this
    split at this
    · cases this
    · cases this
    · rename_i n1 n2
      exact ⟨fun e => n1 e, fun xs e => n2 xs e⟩
variable [WW]
def gSortD : List Sl → List MO → M (List T)
  | [s], m => match lsqOf s m with
    | some ts => match toDs ts with
      | some ds => if sortB ds = true ∧ ts.length ≤ SZ then rM ((sortD leD (ts.zip ds)).map Prod.fst) m else none
      | none => none
    | none => none
  | _, _ => none
theorem toDs_len : ∀ {ts : List T} {ds : List PyData}, toDs ts = some ds → ts.length = ds.length
  | [], ds, h => by unfold toDs at h; cases h; rfl
  | t :: r, ds, h => by
    unfold toDs at h
    split at h
    · rename_i d ds' h1 h2
      cases h
      rw [List.length_cons, List.length_cons, toDs_len h2]
    · cases h
theorem rpl_zip {K : PySem.W.Frag} {F : Hp} : ∀ {xs : List V} {ts : List T} {ds : List PyData}, RpL K F xs ts → ∀ b ∈ xs.zip (ts.zip ds), Rp K F b.1 b.2.1
  | _, _, _, .nil, b, h => by simp at h
  | _, _, [], .cons a r, b, h => by simp at h
  | _, _, d :: ds, .cons a r, b, h => by
    rw [List.zip_cons_cons, List.zip_cons_cons] at h
    rcases List.mem_cons.mp h with rfl | h
    · exact a
    · exact rpl_zip r b h
theorem rpl_map {K : PySem.W.Frag} {F : Hp} : ∀ {l : List (V × T × PyData)}, (∀ b ∈ l, Rp K F b.1 b.2.1) → RpL K F (l.map (·.1)) (l.map (·.2.1))
  | [], _ => .nil
  | b :: l, h => .cons (h b (List.mem_cons_self ..)) (rpl_map fun c hc => h c (List.mem_cons_of_mem _ hc))
theorem le_tr : ∀ a b c : T × PyData, leD a b = true → leD b c = true → leD a c = true := (PySem.W.sortLe_total (PyProof.Rows.listOrd PyProof.Rows.itemOrd) false _).trans
theorem le_tot (a b : T × PyData) : (leD a b || leD b a) = true := by
  rcases (PySem.W.sortLe_total (PyProof.Rows.listOrd PyProof.Rows.itemOrd) false fun b : T × PyData => PySem.W.keyToks b.2).total a b with h | h
  · rw [show leD a b = true from h]; rfl
  · rw [show leD b a = true from h, Bool.or_true]
section
variable {K : PySem.W.Frag}
theorem cv_sortD : CallVN K (rSortedD K) gSortD := by
  intro W F0 F A0 A ρ m σ H0 H xs ss Q n w rs g
  unfold gSortD at g
  split at g
  · split at g
    · rename_i ts e1
      split at g
      · rename_i ds e2
        split at g
        · rename_i hz
          obtain ⟨x, rfl, rx⟩ := rpSs1 rs
          obtain ⟨a, ys, rfl, h1, h2⟩ := lsqOf_at w.os rx e1
          obtain ⟨b1, b2, b3⟩ := sortB_ok hz.1
          have l1 : ys.length = ts.length := h2.length
          have l2 := toDs_len e2
          have z1 : (ys.zip (ts.zip ds)).map (·.1) = ys := List.map_fst_zip (by rw [List.length_zip]; omega)
          have z2 : (ys.zip (ts.zip ds)).map (·.2) = ts.zip ds := List.map_snd_zip (by rw [List.length_zip]; omega)
          have z3 : (ys.zip (ts.zip ds)).map (fun b => b.2.2) = ds := by
            rw [show (fun b : V × T × PyData => b.2.2) = Prod.snd ∘ Prod.snd from rfl, ← List.map_map, z2]
            exact List.map_snd_zip (by omega)
          have dp : DpAll K H ys ds := rpL_dp (Same.refl _) ((h2.same w.os.sub)) e2
          refine ⟨V × T × PyData, ys.zip (ts.zip ds), (·.1), fun b => b.2.2, a, rfl, by rw [z1]; exact h1, by rw [z1, z3]; exact dp, by rw [z3]; exact b1, by rw [z3]; exact b2, fun b hb => b3 _ (by rw [← z3]; exact List.mem_map_of_mem hb), fun p np => ?_⟩
          have e3 : ((ys.zip (ts.zip ds)).mergeSort (PySem.W.dataLe false fun b => b.2.2)).map (·.2) = sortD leD (ts.zip ds) := by
            exact (List.map_mergeSort (r := PySem.W.dataLe false fun b : V × T × PyData => b.2.2) (s := leD) (f := fun b : V × T × PyData => b.2) (fun _ _ _ _ => rfl)).trans (by rw [z2, sortD_eq le_tr le_tot])
          have rr : RpL K F (((ys.zip (ts.zip ds)).mergeSort (PySem.W.dataLe false fun b => b.2.2)).map (·.1)) ((sortD leD (ts.zip ds)).map Prod.fst) := by
            rw [← e3, List.map_map]
            exact rpl_map fun b hb => rpl_zip h2 b ((List.mergeSort_perm _ _).mem_iff.mp hb)
          refine new_list n g w np rr ?_
          rw [← e3, List.length_map, List.length_map, (List.mergeSort_perm _ _).length_eq, List.length_zip, List.length_zip]
          omega
        · exact none_got g
      · exact none_got g
    · exact none_got g
  · exact none_got g
def gSort1 : List Sl → List MO → M (List T)
  | [s], m => match lsqOf s m with
    | some [.tup []] => rM [.tup []] m
    | _ => none
  | _, _ => none
theorem cv_sort1 : CallVN K (rSorted1 K) gSort1 := by
  intro W F0 F A0 A ρ m σ H0 H xs ss Q n w rs g
  unfold gSort1 at g
  split at g
  · split at g
    · rename_i e1
      obtain ⟨x, rfl, rx⟩ := rpSs1 rs
      obtain ⟨a, ys, rfl, h1, h2⟩ := lsqOf_at w.os rx e1
      cases h2 with
      | cons r rn =>
        cases rn
        cases r with
        | @tup t zs _ h3 h4 =>
          cases h4
          exact ⟨a, t, rfl, h1, sqT_same w.os.sub h3.1, fun p np => new_list n g w np (.cons (.tup h3 .nil) .nil) (by show 1 ≤ SZ; decide)⟩
    · exact none_got g
  · exact none_got g
def gSortA (ss : List Sl) (m : List MO) : M (List T) := match gSortS ss m with
  | some r => some r
  | none => match gSortD ss m with
    | some r => some r
    | none => gSort1 ss m
theorem cv_sortA : CallVN K (fun vs H Q => rSortedS2 K vs H Q ∨ (rSortedD K vs H Q ∨ rSorted1 K vs H Q)) gSortA := by
  intro W F0 F A0 A ρ m σ H0 H xs ss Q n w rs g
  unfold gSortA at g
  cases e : gSortS ss m with
  | some r =>
    simp only [e] at g
    exact .inl (cv_sortS W F0 F A0 A ρ m σ H0 H xs ss Q n w rs (by rw [e]; exact g))
  | none =>
    simp only [e] at g
    cases e2 : gSortD ss m with
    | some r =>
      simp only [e2] at g
      exact .inr (.inl (cv_sortD W F0 F A0 A ρ m σ H0 H xs ss Q n w rs (by rw [e2]; exact g)))
    | none =>
      simp only [e2] at g
      exact .inr (.inr (cv_sort1 W F0 F A0 A ρ m σ H0 H xs ss Q n w rs g))
end
end Vs
end
section
namespace Vs
open PySem PySem.Spec PyProof.Rows L2
def permS (ix : List Nat) (ss : List Sl) : List Sl := ix.map fun i => ss.getD i (.val .non)
def permV (ix : List Nat) (vs : List V) : List V := ix.map fun i => vs.getD i .non
def permU (ix : List Nat) (us : List Value) : List Value := ix.map fun i => us.getD i .none
variable [WW]
structure DVK (P : Program) (w : World) (K : PySem.W.Frag) (mg : Str → Option Value) (base : Heap) (x : Str) (k np : Nat) (ks : List Str) (ix : List Nat) (vf : VF) where
  a : Addr
  fd : FuncData
  ps : List Str
  m : mg x = some (.ref a)
  kp : PySem.W.keepIn K (.ref a) = true
  g : FnOk P w K mg base (L2.CX P w) k a fd ps (SpV K np vf)
  kb : KBn K fd ps 0 ks (fun _ ws => permU ix ws) (fun _ zs => permV ix zs)
def vCallK (ix : List Nat) (vf : VF) (fa : VA) : VE := fun s => bM (fa s) fun ss m => callM (noEx vf) (permS ix ss) m
section
variable {W : WX} {X : Cx}
end
end Vs
end
section
namespace Own
open PySem PySem.Spec PyProof.Rows L2
end Own
end
section
namespace Vs
open PySem PySem.Spec PyProof.Rows L2
variable [WW]
section
variable {K : PySem.W.Frag} {W : WX} {X : Cx}
def gZipA (ss : List Sl) (m : List MO) : M (List T) := match gZipL ss m with
  | some r => some r
  | none => match ss with
    | [.val (.tup ts), .val (.tup us)] => rM (zipT ts us) m
    | [.val (.lst ts), .val (.tup us)] => rM (zipT ts us) m
    | _ => none
def vZipA (f : VA) : VI := fun s => bM (f s) gZipA
end
end Vs
end
section
namespace Vs
open PySem PySem.Spec PyProof.Rows L2
variable [WW]
section
variable {X : Cx} {pins : List (Addr × Obj)} {σ : L2.St} {F H : Hp} {A : List Addr} {ρ : List (Option Sl)} {m : List MO} {s : Shared}
end
section
variable {K : PySem.W.Frag} {W : WX}
end
def vKeys (vf : VF) : List T → List MO → M (List T)
  | [], m => rM [] m
  | t :: r, m => match callM vf [.val t] m with
    | some (.ok (.val k), m1) => match vKeys vf r m1 with
      | some (.ok ks, m2) => rM (k :: ks) m2
      | _ => none
    | _ => none
section
variable {X : Cx} {pins : List (Addr × Obj)} {σ : L2.St} {F1 H1 : Hp} {A : List Addr} {ρ : List (Option Sl)} {m : List MO} {s1 : Shared} {f : Addr} {vf : VF} {kb : Nat}
end
section
variable {X : Cx} {pins : List (Addr × Obj)} {σ : L2.St} {F1 H1 : Hp} {A : List Addr} {ρ : List (Option Sl)} {s1 : Shared} {f : Addr} {vf : VF} {kb : Nat}
open PySem.W PyProof.Rows
structure KeySt (X : Cx) (pins : List (Addr × Obj)) (σ : L2.St) (F1 H1 : Hp) (A : List Addr) (ρ : List (Option Sl)) (s1 : Shared) (a kS : Addr) (oa : Obj) (mE : List MO) (vf : VF) (ts ks : List T) (s' : Shared) (F' H' : Hp) (A' : List Addr) (m' : List MO) (kv : List V) (kt : List T) (kA : Array Value) (e : Nat) : Prop where
  I : Inv X pins σ H' s'
  n : Nxt F1 A H1 F' A' H'
  w : Wd X.K F' A' ρ m' σ H'
  un : Un (frs X.stack) [] H1 H' s1.heap s'.heap
  Ha : H' a = some (.frz oa (.lst []))
  Fa : F' a = none
  Aa : a ∉ A'
  Hk : H' kS = none
  gk : s'.heap.get? kS = some (seqObj "list" kA e)
  rv : Vals kv kA.toList
  rk : RpL X.K F' kv kt
  run : vKeys vf ts m' = rM ks mE
end
section
variable {X : Cx} {pins : List (Addr × Obj)} {σ : L2.St} {F H : Hp} {A : List Addr} {ρ : List (Option Sl)} {m mE : List MO} {s : Shared} {f l : Addr} {vf : VF} {kb : Nat} {xs : List V} {ts ks : List T} {kz : List PyData} {Q : VK}
open PySem.W PyProof.Rows
end
def gSortK (vf : VF) (a : Sl) (m : List MO) : M (List T) := match lsqOf a m with
  | some ts => match vKeys vf ts m with
    | some (.ok ks, m2) => match toDs ks with
      | some ds => if sortB ds = true ∧ ts.length ≤ SZ then rM ((sortD leD (ts.zip ds)).map Prod.fst) m2 else none
      | none => none
    | _ => none
  | none => none
def vSortK (fe f1 : VE) : VN := fun s => bM (f1 s) (gSortK (lamF fe (capS s.ρ)))
section
variable {X : Cx} {W : WX} {kb : Nat} {c P : Addr} {params : Arguments} {body : Expr} {scope : Scope} {ps : List Str} {fe : VE} {lpos kpos p pos : Pos}
end
end Vs
end
section
namespace Vs
open PySem PySem.Spec PyProof.Rows L2
variable [WW]
section
variable {K : PySem.W.Frag} {F F' : Hp} {A B : List Addr}
end
section
variable {X : Cx} {pins : List (Addr × Obj)} {σ : L2.St} {F H : Hp} {A : List Addr} {ρ : List (Option Sl)} {m : List MO} {s : Shared} {f l : Addr} {vf : VF} {kb : Nat} {xs : List V} {ts : List T} {zs : Nat → Int} {Q : VK} {d : Value}
open PySem.W PyProof.Rows
end
end Vs
end
section
namespace Vs
open PySem PySem.Spec PyProof.Rows L2
variable [WW]
def keyI (vf : VF) (t : T) : Option Int := match vf [.val t] [] with
  | some (.ok (.val (.int z)), _) => some z
  | _ => none
def keysI (vf : VF) : List T → Option (List Int)
  | [] => some []
  | t :: r => match keyI vf t, keysI vf r with
    | some z, some zs => some (z :: zs)
    | _, _ => none
def gMinK (vf : VF) (a : Sl) (m : List MO) : M Sl := match a with
  | .val (.tup ts) => match keysI vf ts with
    | some zs => match ts with
      | [] => rM (.val .non) m
      | _ :: _ => match ts[argBest (fun i j => decide (zs.getD i 0 < zs.getD j 0)) (ts.length - 1)]? with
        | some t => rM (.val t) m
        | none => none
    | none => none
  | _ => none
def vMinK (fe f1 : VE) : VE := fun s => bM (f1 s) (gMinK (lamF fe (capS s.ρ)))
section
variable {X : Cx} {W : WX} {kb : Nat} {c P : Addr} {params : Arguments} {body : Expr} {scope : Scope} {ps : List Str} {fe : VE} {lpos kpos dpos cpos p pos : Pos} {kd : Nat}
end
end Vs
end
section
namespace Vs
open PySem PySem.Spec PyProof.Rows L2
variable [WW]
section
variable {K : PySem.W.Frag} {W : WX} {X : Cx}
def gPar3 (i j l : Nat) (ρ : List (Option Sl)) (ss : List Sl) (m : List MO) : R := match ss with
  | [a, b, c] => some (.nx, ⟨((ρ.set i (some a)).set j (some b)).set l (some c), m⟩)
  | _ => none
def vPar3 (i j l : Nat) (f : VA) : VS := fun s => bS s.ρ (f s) (gPar3 i j l s.ρ)
end
end Vs
end
section
namespace Vs
open PySem PySem.Spec PyProof.Rows L2
section
variable {P : Program} {w : World} {K : PySem.W.Frag} {mg mb : Str → Option Value} {a : Addr} {t : Shared} {G : Hp} {cs : List (Addr × Addr)}
abbrev tabO : Obj := { cls := .none, data := .fields #[] }
structure BegT (cs : List (Addr × Addr)) (a : Addr) (us : List Value) (t : Shared) (G : Hp) : Prop where
  each : ∀ b, G b = none ∨ (∃ p ∈ cs, b = p.2) ∨ (b = a ∧ ∃ o xs, G b = some (.frz o (.lst xs)))
  lst : t.heap.get? a = some { cls := .type "list", data := .seq us.toArray }
  tbl : ∀ p ∈ cs, t.heap.get? p.2 = some tabO
  tblG : ∀ p ∈ cs, G p.2 = some (.tbl #[])
variable {us : List Value}
end
end Vs
end
section
namespace Vs
open PySem PySem.Spec PyProof.Rows L2
variable [WW]
section
variable {K : PySem.W.Frag} {ge : Addr}
theorem eqOk_of {L : List Addr} {ok : Addr → Ty → Bool} (h : ∀ C y, ok C y = true → ∃ D, y = .cls D ∧ C ∈ L ∧ D ∈ L) (own : ∀ C ∈ L, ∃ gs, Own.OwnC K C gs ge) (nf : ∀ C ∈ L, ∀ D ∈ L, PySem.W.notFirst K C (.ref D) = true) (it : ∀ D ∈ L, InsTy K D) : EqOk K ge ok := fun C y e => by
  obtain ⟨D, rfl, h1, h2⟩ := h C y e
  exact ⟨own C h1, nf C h1 D h2, fun D' e' => by cases e'; exact it D h2⟩
theorem okq_of {L : List Addr} {C : Addr} {y : Ty} (h : (match y with | .cls D => decide (C ∈ L) && decide (D ∈ L) | _ => false) = true) : ∃ D, y = .cls D ∧ C ∈ L ∧ D ∈ L := by
  split at h
  · rename_i D
    rw [Bool.and_eq_true] at h
    exact ⟨D, rfl, of_decide_eq_true h.1, of_decide_eq_true h.2⟩
  · cases h
end
end Vs
end
section
namespace Vs
open PySem PySem.Spec PyProof.Rows L2
def up (i : Nat) (f : Addr) (ρ : List (Option Sl)) : List (Option Sl) := ρ.set i (some (.val (.cst (.ref f))))
section
variable {α β : Type} {i j : Nat}
end
end Vs
end
section
namespace Vs
open PySem PySem.Spec PyProof.Rows L2
variable [WW]
section
variable {K : PySem.W.Frag} {W : WX} {X : Cx}
end
end Vs
end
section
namespace Vs
open PySem PySem.Spec PyProof.Rows L2
variable [WW]
section
variable {K : PySem.W.Frag} {W : WX} {X : Cx}
end
end Vs
end
section
namespace HT
open PySem PySem.Spec PyProof.Rows PySem.W
section
variable {prog : Program} {w : World} {A : Around} {E : Value → Shared → Prop} {s : Shared}
end
end HT
namespace Vs
open PySem PySem.Spec PyProof.Rows L2
section
variable {X : Cx}
end
variable [WW]
section
variable {K : PySem.W.Frag} {W : WX} {X : Cx}
end
end Vs
end
section
namespace L2
open PySem PySem.Spec PyProof.Rows
section
variable {X : Cx}
variable {e : Expr} {te : St → Hp → (Int → Int → Hp → Prop) → Prop}
end
end L2
namespace Vs
open PySem PySem.Spec PyProof.Rows L2
variable [WW]
section
variable {K : PySem.W.Frag} {W : WX} {X : Cx}
end
end Vs
end
section
namespace Vs
open PySem PySem.Spec PyProof.Rows L2
def IxC (K : PySem.W.Frag) (gi C : Addr) : Prop := PySem.W.findIn K (.ref C) "__getitem__" = some (some (.ref gi)) ∧ PySem.W.fnIn K gi = true ∧ PySem.W.isFn K (.ref gi) = true
section
variable [WW]
variable {K : PySem.W.Frag} {W : WX} {X : Cx}
structure IXM (P : Program) (w : World) (K : PySem.W.Frag) (mg : Str → Option Value) (base : Heap) (k : Nat) (ok : Addr → Bool) (vf : VF) where
  a : Addr
  fd : FuncData
  ps : List Str
  g : FnOk P w K mg base (L2.CX P w) k a fd ps (SpV K 2 vf)
  b : Binds K fd ps []
  c : ∀ C, ok C = true → IxC K a C
end
section
variable {i j : Nat}
end
end Vs
end
section
namespace Vs
open PySem PySem.Spec PyProof.Rows L2
section
variable [WW]
variable {X : Cx}
end
section
variable [WW]
variable {P : Program} {w : World} {K : PySem.W.Frag} {mg : Str → Option Value} {base : Heap}
theorem okVn {x qual : Str} {st : Stmt} {f : Addr} {fd : FuncData} {N ps : List Str} {k n : Nat} {b : VS} (F : Fun K x qual st f fd) (S : FnScope N ps (defScope st)) (hn : N.length = n)
    (hb : ∀ (cdv : Value) (A : Around) (outer : List Env) (s : Shared) (H : Hp) (E : XK), Room k (A.deeper (envOfC qual (defScope st) s.heap.objs.size f cdv)) →
      PSs (cxOf (L2.CX P w) P w K mg base N qual (defScope st) f cdv A outer s H E) (defBody st) (LS K (fun cls d _ H => E cls d H) b)) : FnOk P w K mg base (L2.CX P w) (k + 1) f fd ps (SpV K ps.length (vDef n b)) := by
  subst hn
  exact okV F S hb
end
end Vs
end
section
namespace Vs
open PySem PySem.Spec PyProof.Rows L2
section
variable {X : Cx}
end
variable [WW]
section
variable {K : PySem.W.Frag} {W : WX} {X : Cx}
end
end Vs
end
section
namespace Vs
open PySem PySem.Spec PyProof.Rows L2
section
variable {prog : Program} {w : World} {A : Around} {E : Value → Shared → Prop} {s : Shared} {l : Addr} {xs : Array (Int × Tok)}
end
variable [WW]
section
variable {K : PySem.W.Frag}
end
end Vs
end
section
namespace Vs
open PySem PySem.Spec PyProof.Rows L2
variable [WW]
section
variable {K : PySem.W.Frag} {W : WX} {X : Cx}
end
end Vs
end
section
namespace Vs
open PySem PySem.Spec PyProof.Rows L2
variable [WW]
section
variable {K : PySem.W.Frag} {W : WX} {X : Cx}
end
end Vs
end
section
namespace Vs
open PySem PySem.Spec PyProof.Rows L2
variable [WW]
abbrev CmpT := V → V → Hp → (Hp → Prop) → Prop
def EqT (X : Cx) (n : Nat) (D : CmpT) : Prop :=
  ∀ (A : Around) (pins : List (Addr × Obj)) (s : Shared) (σ : L2.St) (H : Hp) (x y : V) (u v : Value) (k : Hp → Prop), Sub X n A → Inv X pins σ H s → RelV x u → RelV y v → D x y H k →
    wpAny (model X.prog X.w) A (eqBool u v) (fun c s' => c = true ∧ ∃ H', Inv X pins σ H' s' ∧ k H') X.xe s
def DItems (D : CmpT) (a b : Addr) (XS YS : List V) : List V → List V → Hp → (Hp → Prop) → Prop
  | [], [], H, k => k H
  | x :: xs, y :: ys, H, k => D x y H fun H' => H' a = some (.lst XS) ∧ H' b = some (.lst YS) ∧ DItems D a b XS YS xs ys H' k
  | _, _, _, _ => False
section
variable {X : Cx} {n : Nat} {D : CmpT}
theorem turnT (h : EqT X n D) {A : Around} (sb : Sub X (n + 1) A) {pins : List (Addr × Obj)} {σ : L2.St} {a b : Addr} {xs ys : List V} {k : Hp → Prop} (hl : xs.length = ys.length) {E : Value → Shared → Prop} (hE : E = X.xe) {R : Value → Shared → Prop} (ne : Bool) :
    Own.TwoI X.prog X.w A (wants R E) ne a b xs.length (fun i s' => i ≤ xs.length ∧ ∃ H', Inv X pins σ H' s' ∧ H' a = some (.lst xs) ∧ H' b = some (.lst ys) ∧ DItems D a b xs ys (xs.drop i) (ys.drop i) H' k) := by
  subst hE
  intro i s' ⟨hi, H1, I1, ha, hb, d⟩
  obtain ⟨z, its, kk, r, e⟩ := I1.hok a _ ha
  obtain ⟨z2, its2, kk2, r2, e2⟩ := I1.hok b _ hb
  refine ⟨its.toArray, its2.toArray, kk, kk2, e, e2, by rw [List.size_toArray, ← r.length], by rw [List.size_toArray, ← r2.length, hl], fun h1 h2 => ?_⟩
  have l1 : i < its.length := by simpa using h1
  have l2 : i < its2.length := by simpa using h2
  have k1 : i < xs.length := by rw [r.length]; exact l1
  have k2 : i < ys.length := by rw [r2.length]; exact l2
  obtain ⟨u, hu, ru⟩ := r.get (List.getElem?_eq_getElem k1)
  obtain ⟨v, hv, rv⟩ := r2.get (List.getElem?_eq_getElem k2)
  have eu : its.toArray[i] = u := by
    rw [List.getElem?_eq_getElem l1] at hu
    simpa using Option.some.inj hu
  have ev : its2.toArray[i] = v := by
    rw [List.getElem?_eq_getElem l2] at hv
    simpa using Option.some.inj hv
  rw [eu, ev]
  rw [List.drop_eq_getElem_cons k1, List.drop_eq_getElem_cons k2] at d
  refine wpAny_mono (h A.in1 pins s' σ H1 _ _ u v _ sb.in1 I1 ru rv d) (fun c s2 q => ?_) fun _ _ x => x
  obtain ⟨rfl, H2, I2, ha2, hb2, d2⟩ := q
  exact .inl ⟨rfl, k1, H2, I2, ha2, hb2, d2⟩
end
section
variable {K : PySem.W.Frag} {W : WX} {X : Cx}
structure Lat (K : PySem.W.Frag) (A : List Addr) (m : List MO) (F H F' H' : Hp) : Prop where
  nx : Nxt F A H F' A H'
  os : Objs K F' A m H'
  keep : ∀ a xs, H a = some (.lst xs) → H' a = some (.lst xs)
section
variable {n : Nat} {ge : Addr} {fd : FuncData} {ps : List Str} {vf : VF} {a b : Expr} {fa fb : VE} {pos : Pos}
end
end
end Vs
end
section
namespace Vs
open PySem PySem.Spec PyProof.Rows PySem.W L2
abbrev zBody (p0 p1 p2 p3 p4 : Pos) : List Stmt := [.Expr (.Call (.Attribute (.Call (.Name "super" p0) [] [] p1) "__init__" p2) [] [] p3) p4]
theorem z_node {prog : Program} {w : World} {A : Around} {E : Value → Shared → Prop} {s : Shared} {h₀ : Heap} {L : Addr} {m mg mb : Str → Option Value} {news : List (Addr × Obj)} {K : PySem.W.Frag} {x C D f cc cda : Addr} {ox : Obj} {odx : Option Obj}
    {body : List Stmt} {q : Str} {scope : Scope} {p0 p1 : Pos} {attr : Str} {whole : Sem Value} {fd : FuncData} {ar : Arg} {vs : Array Value} {file : Str} {tf : Tok} {oc ccl cl : Value} {od cdd cld : Option Addr} {osl ccs csl : Array (Option Value)} {cdD : ClassData} {Q : Value → Shared → Prop}
    (F : Fr h₀ L s.heap m) (X₀ : K.In h₀) (N : News h₀ L s.heap news) (g : h₀.Ns mainGlobals mg) (b : h₀.Ns builtinsNs mb) (bb : ∀ y : Str, y ≠ "__name__" → mb y = bootBuiltins y)
    (hf : K.lookup f = some ⟨oc, od, .func fd, osl⟩) (hp : (fd.params.posonlyargs ++ fd.params.args).head? = some ar) (hv : m ar.arg = some (.ref x)) (I : InstAt s.heap x ox C odx)
    (hcode : K.lookup cda = some ⟨ccl, cdd, .fields vs, ccs⟩) (hvs : vs[2]? = some (.str file tf)) (hfile : ((prog.main.file : Str) == file) = true)
    (hcell : K.lookup cc = some ⟨cl, cld, .cell (some (.ref D)), csl⟩) (hD : clsIn K D = some cdD) (hsub : mroIn K C (.ref D) = some true) (hsuper : nsIn K mainGlobals "super" = some none)
    (hat : (attr == ("__class__" : Str)) = false) (hks : scope.names.lookup ("super" : Str) = some .globalImplicit) (hkc : scope.names.lookup ("__class__" : Str) = some .free) (hka : scope.names.lookup ar.arg = some .local) (hk : scope.kind = .function)
    (htop : (prog.main.scope.names.lookup ("super" : Str)).isSome = false) (hboot : bootBuiltins "super" = some (.type "super"))
    (h : ∀ so h', Fr h₀ L h' m → News h₀ L h' ((so, ks_superObj D x C) :: news) → (∀ p ∈ news, p.1 < so) → Q (.ref so) { s with heap := h' }) :
    PySem.wpAt (model prog w) A (.func body (ksEnv q scope L f (.ref cda) cc)) (attributeBase (.Call (.Name "super" p0) [] [] p1) attr (ksEnv q scope L f (.ref cda) cc) whole) Q E s := by
  have X : K.In s.heap := X₀.keeps F.keep
  obtain ⟨hh, gg, d, t, os⟩ := s
  obtain ⟨oD, hD1, hD2⟩ : ∃ oD, hh.get? D = some oD ∧ oD.data = .cls cdD := by
    unfold clsIn at hD
    split at hD
    · rename_i c d cd' sl ho
      cases hD
      exact ⟨_, X _ _ ho, rfl⟩
    · cases hD
  refine ks_wpAt_super_base (env := ksEnv q scope L f (.ref cda) cc) hks hkc hat rfl (X _ _ hf) rfl hp rfl (X _ _ hcode) rfl hvs hfile htop ?_
  refine ks_loadName_global hk hks (Calls.loadGlobal_builtin (env := ksEnv q scope L f (.ref cda) cc) (g.keeps F.keep) (mg_none_of X₀ g hsuper) (b.keeps F.keep) ((bb _ (by decide +kernel)).trans hboot) ⟨rfl, ?_⟩)
  refine wpAny_loadName_free hk hkc rfl ⟨_, X _ _ hcell, rfl⟩ ?_
  refine wpAny_loadName_local hk hka F.ns hv ?_
  refine ks_wpAny_isType_cls hD1 hD2 ⟨rfl, ?_⟩
  refine ks_wpAny_call_super hD1 hD2 I.at_ I.cls (fun c e => ?_) (looks_mroIn X hsub) (fun h' e k => ?_)
  · have := I.no
    unfold notCls at this
    rw [e] at this
    exact Bool.noConfusion this
  · obtain ⟨F', N', l'⟩ := ks_newsPush (s := ⟨hh, gg, d, t, os⟩) F N rfl e k
    exact h _ _ F' N' l'
structure ZOk (P : Program) (K : PySem.W.Frag) (C : Addr) : Prop where
  ox : OexC K C
  q : excInitIn K C [.type "ValueError", .type "Exception", .type "BaseException", .type "object"] "ValueError.__new__" = true
  fn : ∃ (fI cda cc : Addr) (oc ccl cl kV doc pm ct : Value) (od cdd cld an : Option Addr) (osl ccs csl : Array (Option Value)) (vs : Array Value) (file : Str) (tf : Tok) (cdD : ClassData) (name qual : Str) (params : Arguments) (scope : Scope) (p0 p1 p2 p3 p4 : Pos) (ar : Arg),
    PySem.W.findIn K (.ref C) "__init__" = some (some (.ref fI)) ∧ PySem.W.typeIn K (.ref fI) = some (.type "function") ∧
    K.lookup fI = some ⟨oc, od, .func (ksFn name qual params (zBody p0 p1 p2 p3 p4) scope .none kV doc pm an (.ref cda) ct cc), osl⟩ ∧ codeIn K (.ref cda) qual = true ∧
    K.lookup cda = some ⟨ccl, cdd, .fields vs, ccs⟩ ∧ vs[2]? = some (.str file tf) ∧ ((P.main.file : Str) == file) = true ∧
    K.lookup cc = some ⟨cl, cld, .cell (some (.ref C)), csl⟩ ∧ clsIn K C = some cdD ∧ mroIn K C (.ref C) = some true ∧
    (params.posonlyargs ++ params.args).head? = some ar ∧ ar.arg = "self" ∧ scope.names.lookup ("super" : Str) = some .globalImplicit ∧ scope.names.lookup ("__class__" : Str) = some .free ∧ scope.names.lookup ("self" : Str) = some .local ∧
    scope.kind = .function ∧ scope.isCoroutine = false ∧ scope.isGenerator = false ∧ (∀ y ∈ scope.names, y.2 ≠ .cell) ∧
    (∀ e : Addr, bindArgs (ksFn name qual params (zBody p0 p1 p2 p3 p4) scope .none kV doc pm an (.ref cda) ct cc) ⟨[.ref e], []⟩ = pure [(("self" : Str), Value.ref e)]) ∧
    (∀ L : Addr, interactive (ksEnv qual scope L fI (.ref cda) cc) = false) ∧
    (∀ L : Addr, swapsWith (.Call (.Attribute (.Call (.Name "super" p0) [] [] p1) "__init__" p2) [] [] p3) none p4.line (ksEnv qual scope L fI (.ref cda) cc) = pure false) ∧
    (∀ L : Addr, ∃ pl : Sem Bool, eval (.Call (.Attribute (.Call (.Name "super" p0) [] [] p1) "__init__" p2) [] [] p3) (ksEnv qual scope L fI (.ref cda) cc) = (do
      let ov ← attributeBase (.Call (.Name "super" p0) [] [] p1) "__init__" (ksEnv qual scope L fI (.ref cda) cc) (eval (.Call (.Name "super" p0) [] [] p1) (ksEnv qual scope L fI (.ref cda) cc))
      standAt p2.atName
      let (f, first) ← holding [ov] (getMethod ov "__init__" pl)
      callWith p3 f first (backTo p3 (starEach [] (ksEnv qual scope L fI (.ref cda) cc))) []))
  sup : nsIn K mainGlobals "super" = some none
  open_ : nsIn K cStatics "thirdparty.any" = some none
  init : ks_superIn K C C "__init__" = some (some (.builtin "ValueError.__init__"))
  sub : subIn K (.ref C) (.type "ValueError") = some true
  top : (P.main.scope.names.lookup ("super" : Str)).isSome = false
theorem z_run {P : Program} {w : World} {K : PySem.W.Frag} {mg mb : Str → Option Value} {C e t fI : Addr} {A : Around} {R : Result → Shared → Prop} {hp hq : Heap} {g : Array GenState} {d : Drawn} {tk : Nat} {os : OsState} (Z : ZOk P K C) (hfI : PySem.W.findIn K (.ref C) "__init__" = some (some (.ref fI)))
    (X₀ : K.In hp) (k : ∀ b o, hp.get? b = some o → hq.get? b = some o) (he : hq.get? e = some (excObj C t none .none)) (hn : hp.get? e = none) (hsz : hp.objs.size ≤ hq.objs.size)
    (gl : hp.Ns mainGlobals mg) (bl : hp.Ns builtinsNs mb) (bb : ∀ y : Str, y ≠ "__name__" → mb y = bootBuiltins y) (lim : hp.NoLimit) (hroom : A.depth < recursionLimit)
    (h : ∀ h' t' tk', (∀ b o, hp.get? b = some o → h'.get? b = some o) → h'.get? e = some (excObj C t' none .none) → R (.ok (.ret .none)) ⟨h', g, d, tk', os⟩) :
    codeAny (model P w) A (.call (.ref fI) ⟨[.ref e], []⟩) R ⟨hq, g, d, tk, os⟩ := by
  obtain ⟨fI', cda, cc, oc, ccl, cl, kV, doc, pm, ct, od, cdd, cld, an, osl, ccs, csl, vs, file, tf, cdD, name, qual, params, scope, p0, p1, p2, p3, p4, ar, f1, f2, lk, hcd, lc, hvs, hfile, hcell, hD, hmro, har, hself, hks, hkc, hka, hk, hco, hgen, hncell, hbind, hint, hsw, hev⟩ := Z.fn
  obtain rfl : fI = fI' := by
    rw [hfI] at f1
    cases f1
    rfl
  have KX : K.In hq := X₀.keeps k
  refine ks_codeAny_call_defAt (fd := ksFn name qual params (zBody p0 p1 p2 p3 p4) scope .none kV doc pm an (.ref cda) ct cc) (body := zBody p0 p1 p2 p3 p4) (binds := [("self", .ref e)]) hroom (KX _ _ lk) rfl (lim.keeps k) (codeRec_of KX hcd) rfl (BindsTo.of_eq (hbind e)) hncell ?_ (fun h₁ hns hk₁ => ?_) hco hgen hk
  · intro y hy
    rcases List.mem_cons.mp hy with rfl | hy
    · exact hka
    · cases hy
  have F : Fr hp hq.objs.size h₁ (fun y => ([("self", Value.ref e)] : List (Str × Value)).reverse.lookup y) := ⟨hns, fun b o z => hk₁ b o (k b o z), hsz⟩
  have N : News hp hq.objs.size h₁ [(e, excObj C t none .none)] := by
    intro p hp'
    rcases List.mem_cons.mp hp' with rfl | hp'
    · exact ⟨hk₁ _ _ he, Nat.ne_of_lt (Heap.lt_size he), hn⟩
    · cases hp'
  show PySem.wpAt (model P w) (A.deeper (ksEnv qual scope hq.objs.size fI (.ref cda) cc)) (.func (zBody p0 p1 p2 p3 p4) (ksEnv qual scope hq.objs.size fI (.ref cda) cc)) (execs (zBody p0 p1 p2 p3 p4) (ksEnv qual scope hq.objs.size fI (.ref cda) cc)) _ _ _
  obtain ⟨pl, hev'⟩ := hev hq.objs.size
  refine ks_wpAt_execs_cons (ks_wpAt_Expr_any (ks_wpAt_MethodCall (pl := pl) ?_ hev') (hint _) (hsw _))
  refine z_node F X₀ N gl bl bb lk har (by rw [hself]; rfl) (InstAt.of_exc0 N (List.mem_singleton.2 rfl)) lc hvs hfile hcell hD hmro Z.sup (by decide) hks hkc (by rw [hself]; exact hka) hk Z.top PyProof.Rows.Boot.super (fun so h2 F2 N2 l2 => ?_)
  refine kxs_method kxs_ValueError F2 X₀ N2 (List.mem_cons_self ..) (InstAt.of_exc0 N2 (List.mem_cons_of_mem _ (List.mem_singleton.2 rfl))) Z.open_ Z.init Z.sub (by decide) (fun q h3 F3 N3 l3 => ?_)
  refine kxs_callWith0 (i := "ValueError.__init__") (x := e) N3 (List.mem_cons_self ..) ?_
  have e1 : so ≠ e := Nat.ne_of_gt (l2 _ (List.mem_singleton.2 rfl))
  have e2 : q ≠ e := Nat.ne_of_gt (l3 _ (List.mem_cons_of_mem _ (List.mem_singleton.2 rfl)))
  refine kxs_call F3 X₀ N3 PySem.F.excBase_ValueError Z.q (List.mem_cons_self ..) (UpdF.tail e2 (UpdF.tail e1 (UpdF.head (fun p hp' => nomatch hp')))) (Nat.zero_le _) (fun t' h4 F4 N4 l4 => ?_)
  show PySem.wpAt (model P w) _ _ (execs [] _) _ _ _
  refine wpAt_of_wpAny ?_
  rw [execs_nil]
  exact wpAny_pure (h _ _ _ F4.keep (N4 (e, excObj C t' none .none) (List.mem_cons_of_mem _ (List.mem_cons_of_mem _ (List.mem_cons_of_mem _ (List.mem_cons_self ..))))).1)
theorem exm_own {K : PySem.W.Frag} {C x : Addr} {b : Bool} (h0 : PySem.W.subIn K (.ref x) (.type "BaseException") = some true) (h1 : PySem.W.isClsIn K x = true) (h2 : PySem.W.typeIn K (.ref x) = some (.type "type")) (h3 : PySem.W.subIn K (.ref C) (.ref x) = some b) : PySem.W.exmOne K (.ref C) (.ref x) = some b := by
  unfold PySem.W.exmOne
  rw [h0, if_pos (by rfl)]
  have e : ((PySem.W.clsIn K x).isSome && PySem.W.typeIn K (.ref x) == some (.type "type")) = true := by
    have h1' : (PySem.W.clsIn K x).isSome = true := h1
    rw [h1', h2]
    rfl
  show (if ((PySem.W.clsIn K x).isSome && PySem.W.typeIn K (.ref x) == some (.type "type")) = true then PySem.W.subIn K (.ref C) (.ref x) else none) = some b
  rw [if_pos e, h3]
theorem tm_of {K : PySem.W.Frag} {u : Value} {l1 l2 : List Addr} (h1 : ∀ C ∈ l1, PySem.W.exmOne K (.ref C) u = some true) (h2 : ∀ C ∈ l2, PySem.W.exmOne K (.ref C) u = some false) : ∀ C b, (fun C => if C ∈ l1 then some true else if C ∈ l2 then some false else none : Addr → Option Bool) C = some b → PySem.W.exmOne K (.ref C) u = some b := fun C b e => by
  simp only at e
  split at e
  · rename_i h; cases e; exact h1 C h
  · split at e
    · rename_i h; cases e; exact h2 C h
    · cases e
theorem zok_mk {P : Program} {K : PySem.W.Frag} {C : Addr} {nm qn : Str} {N : Addr} {bs bm : List Value} {sn : List Str} {sub : List Value} {ab : Bool} {col : Option Bool} {dd : Option Addr} {k0 k1 k2 k3 k5 : Option Value}
    {fI cda cc : Addr} {oc ccl cl kV doc pm ct : Value} {od cdd cld an : Option Addr} {osl ccs csl : Array (Option Value)} {vs : Array Value} {cdD : ClassData} {name qual : Str} {st : Stmt}
    (c1 : K.lookup C = some (excClassObj nm qn C N bs bm true sn sub ab col dd k0 k1 k2 k3 k5 "ValueError.__new__")) (c3 : PySem.W.findIn K (.ref C) "__setattr__" = some (some (.builtin "object.__setattr__")))
    (c4 : PySem.W.subIn K (.ref C) (.type "BaseException") = some true) (c5 : PySem.W.typeIn K (.ref C) = some (.type "type")) (c6 : PySem.W.keepIn K (.ref C) = true)
    (iC : PySem.W.findIn K (.ref C) "__init__" = some (some (.ref fI))) (tI : PySem.W.typeIn K (.ref fI) = some (.type "function"))
    (lk : K.lookup fI = some ⟨oc, od, .func (ksFn name qual (defArgs st) (defBody st) (defScope st) .none kV doc pm an (.ref cda) ct cc), osl⟩) (hcd : codeIn K (.ref cda) qual = true)
    (lc : K.lookup cda = some ⟨ccl, cdd, .fields vs, ccs⟩) (hcell : K.lookup cc = some ⟨cl, cld, .cell (some (.ref C)), csl⟩) (hD : clsIn K C = some cdD) (hmro : mroIn K C (.ref C) = some true)
    (s1 : nsIn K mainGlobals "super" = some none) (s2 : nsIn K cStatics "thirdparty.any" = some none) (s3 : ks_superIn K C C "__init__" = some (some (.builtin "ValueError.__init__"))) (s4 : subIn K (.ref C) (.type "ValueError") = some true)
    (q : excInitIn K C [.type "ValueError", .type "Exception", .type "BaseException", .type "object"] "ValueError.__new__" = true)
    (c2 : PySem.HandSPX.refsVE bm = true)
    (rest : ∃ (file : Str) (tf : Tok) (p0 p1 p2 p3 p4 : Pos) (ar : Arg), vs[2]? = some (.str file tf) ∧ ((P.main.file : Str) == file) = true ∧ defBody st = zBody p0 p1 p2 p3 p4 ∧
      ((defArgs st).posonlyargs ++ (defArgs st).args).head? = some ar ∧ ar.arg = "self" ∧ (defScope st).names.lookup ("super" : Str) = some .globalImplicit ∧ (defScope st).names.lookup ("__class__" : Str) = some .free ∧ (defScope st).names.lookup ("self" : Str) = some .local ∧
      (defScope st).kind = .function ∧ (defScope st).isCoroutine = false ∧ (defScope st).isGenerator = false ∧ (∀ y ∈ (defScope st).names, y.2 ≠ .cell) ∧
      (∀ e : Addr, bindArgs (ksFn name qual (defArgs st) (zBody p0 p1 p2 p3 p4) (defScope st) .none kV doc pm an (.ref cda) ct cc) ⟨[.ref e], []⟩ = pure [(("self" : Str), Value.ref e)]) ∧
      (∀ L : Addr, interactive (ksEnv qual (defScope st) L fI (.ref cda) cc) = false) ∧
      (∀ L : Addr, swapsWith (.Call (.Attribute (.Call (.Name "super" p0) [] [] p1) "__init__" p2) [] [] p3) none p4.line (ksEnv qual (defScope st) L fI (.ref cda) cc) = pure false) ∧
      (∀ L : Addr, ∃ pl : Sem Bool, eval (.Call (.Attribute (.Call (.Name "super" p0) [] [] p1) "__init__" p2) [] [] p3) (ksEnv qual (defScope st) L fI (.ref cda) cc) = (do
        let ov ← attributeBase (.Call (.Name "super" p0) [] [] p1) "__init__" (ksEnv qual (defScope st) L fI (.ref cda) cc) (eval (.Call (.Name "super" p0) [] [] p1) (ksEnv qual (defScope st) L fI (.ref cda) cc))
        standAt p2.atName
        let (f, first) ← holding [ov] (getMethod ov "__init__" pl)
        callWith p3 f first (backTo p3 (starEach [] (ksEnv qual (defScope st) L fI (.ref cda) cc))) [])))
    (top : (P.main.scope.names.lookup ("super" : Str)).isSome = false) : ZOk P K C := by
  obtain ⟨file, tf, p0, p1, p2, p3, p4, ar, r1, r2, r3, r4, r5, r6, r7, r8, r9, r10, r11, r12, r13, r14, r15, r16⟩ := rest
  rw [r3] at lk
  exact ⟨⟨⟨nm, qn, N, bs, bm, sn, sub, ab, col, dd, k0, k1, k2, k3, k5, c1, c2⟩, c3, c4, c5, c6⟩, q, ⟨fI, cda, cc, oc, ccl, cl, kV, doc, pm, ct, od, cdd, cld, an, osl, ccs, csl, vs, file, tf, cdD, name, qual, defArgs st, defScope st, p0, p1, p2, p3, p4, ar, iC, tI, lk, hcd, lc, r1, r2, hcell, hD, hmro, r4, r5, r6, r7, r8, r9, r10, r11, r12, r13, r14, r15, r16⟩, s1, s2, s3, s4, top⟩
variable [WW]
theorem mkz_of {P : Program} {w : World} {K : PySem.W.Frag} {mg : Str → Option Value} {base : Heap} {x : Str} {C : Addr} (Z : ZOk P K C) (m : mg x = some (.ref C)) (hd : (x == ("__debug__" : Str)) = false) {k : Nat} (hk1 : 1 ≤ k) : MkZ P w K mg base k x C := by
  intro X p pos eP ew eK em eb hc hr0 hg pins s σ H Q I h
  subst eP ew eK em eb
  have hr : Room 1 X.A := hr0.mono hk1
  obtain ⟨nm, q, N, bs, bm, sn, sub, ab, col, dd, k0, k1, k2, k3, k5, hC, hbm⟩ := Z.ox.cls
  obtain ⟨fI, _, _, _, _, _, _, _, _, _, _, _, _, _, _, _, _, _, _, _, _, _, _, _, _, _, _, _, _, _, _, iC, tI, _⟩ := Z.fn
  refine wpAny_Call_Name_kw (ld_glob I hg m ?_ hd)
  refine PySem.W.callWith_K0 (I.kIn) Z.ox.kC ?_
  show wpAny _ _ (call (.ref C) []) _ _ _
  obtain ⟨mb, bl, bb⟩ := I.mod.blt
  have kk : ∀ b o, s.heap.get? b = some o → ((s.heap.push (PySem.W.kdv_tup [])).push (PySem.HandSPX.excO C s.heap.objs.size)).get? b = some o := fun b o e => Heap.get?_push_of_some _ (Heap.get?_push_of_some _ e)
  have hget : ((s.heap.push (PySem.W.kdv_tup [])).push (PySem.HandSPX.excO C s.heap.objs.size)).get? (s.heap.objs.size + 1) = some (PySem.HandSPX.excO C s.heap.objs.size) := by heap_get
  have hsz : s.heap.objs.size ≤ s.heap.objs.size + 1 := Nat.le_succ _
  have na : s.heap.get? (s.heap.objs.size + 1) = none := Heap.get?_none_of_le hsz
  obtain ⟨hp, g, d, tk, os⟩ := s
  refine wpAny_call (PySem.HandSPX.call_own F.excBase_ValueError (fun Y => PySem.HandSPX.refsVE_contains Y bm hbm) (I.kIn _ _ hC) (PySem.W.looks_findIn I.kIn iC) (fun self => PySem.W.bind_fn I.kIn self tI) (Nat.zero_le _) ?_)
  refine z_run (mb := mb) Z iC I.kIn kk hget na ?_ (I.mod.glob.keeps I.bk) (bl.keeps I.bk) bb I.nolimit (hr.make C [] []).depth (fun h' t' tk' k he => ?_)
  · show hp.objs.size ≤ ((hp.push (PySem.W.kdv_tup [])).push (PySem.HandSPX.excO C hp.objs.size)).objs.size
    exact Nat.le_of_lt (Nat.lt_of_le_of_lt hsz (Heap.lt_size hget))
  · refine ⟨rfl, ?_⟩
    show MkP X pins σ Q (.ref (hp.objs.size + 1)) _
    exact ⟨_, _, _, ⟨hp, g, d, tk', os⟩, H, .ref C, none, rfl, I.tok _, k, na, he, ⟨rfl, rfl⟩, rfl, rfl, I.hok.fresh hsz, rfl, I.bare, raises_own Z.ox.exC Z.ox.tyC, h⟩
end Vs
end
section
namespace Vw
open PySem PySem.Spec PyProof.Rows L2 Own Vs
def top (i : Nat) : Stmt := PySem.Challenge.pw_outermost_k35_stacks_in_an_order.main.body.getD i (.Pass ⟨0, 0, 0, 0⟩)
abbrev s_InvalidOrder_init : Stmt := inClass (top 6) 0
abbrev s_is_integer : Stmt := top 9
abbrev s_is_sequence : Stmt := top 10
abbrev s_Row_read : Stmt := inClass (top 17) 0
abbrev s_Row_str : Stmt := inClass (top 17) 3
abbrev s_Keep_init : Stmt := inClass (top 18) 0
abbrev s_Keep_words : Stmt := inClass (top 18) 1
abbrev s_Tries_init : Stmt := inClass (top 19) 0
abbrev s_Tries_words : Stmt := inClass (top 19) 1
abbrev s_Limit_init : Stmt := inClass (top 20) 0
abbrev s_Limit_words : Stmt := inClass (top 20) 1
abbrev s_Leave_words : Stmt := inClass (top 21) 0
abbrev s_Soft_init : Stmt := inClass (top 22) 0
abbrev s_Soft_words : Stmt := inClass (top 22) 1
abbrev s_Count_words : Stmt := inClass (top 23) 0
abbrev s_Lend_words : Stmt := inClass (top 24) 0
abbrev s_is_one_of : Stmt := top 25
abbrev s_check_argument : Stmt := top 26
abbrev s_every_row : Stmt := top 27
abbrev s_Stack_init : Stmt := inClass (top 29) 0
abbrev s_Stack_read : Stmt := inClass (top 29) 1
abbrev s_Stack_eq : Stmt := inClass (top 29) 9
abbrev s_Stack_str : Stmt := inClass (top 29) 10
abbrev s_rows_of : Stmt := top 30
abbrev s_rows_in : Stmt := top 31
abbrev s_stack_of : Stmt := top 34
abbrev s_is_order : Stmt := top 35
abbrev s_check_order : Stmt := top 36
abbrev s_law_source : Stmt := top 38
abbrev s_law_draw : Stmt := top 39
abbrev s_law_pick : Stmt := top 40
abbrev s_law_mixed : Stmt := top 41
abbrev s_law_row : Stmt := top 42
abbrev s_law_rows : Stmt := top 43
abbrev s_law_lot_rows : Stmt := top 44
abbrev s_law_row_text : Stmt := top 45
abbrev s_law_text : Stmt := top 46
abbrev s_law_made_rows : Stmt := top 47
abbrev s_law_orders : Stmt := top 48
abbrev s_law_heard : Stmt := top 49
abbrev s_law : Stmt := top 50
section
variable [WW]
variable {P : Program} {w : World} {K : PySem.W.Frag} {mg : Str → Option Value} {base : Heap}
structure CS where
  WrapError : Addr
  InvalidRow : Addr
  InvalidStack : Addr
  InvalidText : Addr
  InvalidOrder : Addr
  NoRow : Addr
  Row : Addr
  Keep : Addr
  Tries : Addr
  Limit : Addr
  Leave : Addr
  Soft : Addr
  Count : Addr
  Lend : Addr
  Stack : Addr
def ctB (c : CS) : Addr → Option Bool := fun C => if C ∈ [c.Row, c.Keep, c.Tries, c.Limit, c.Leave, c.Soft, c.Count, c.Lend, c.Stack] then some false else none
def ct_Row (c : CS) : Addr → Option Bool := fun C => if C ∈ [c.Row, c.Keep, c.Tries, c.Limit, c.Leave, c.Soft, c.Count, c.Lend] then some true else if C ∈ [c.Stack] then some false else none
def ct_Stack (c : CS) : Addr → Option Bool := fun C => if C ∈ [c.Stack] then some true else if C ∈ [c.Row, c.Keep, c.Tries, c.Limit, c.Leave, c.Soft, c.Count, c.Lend] then some false else none
def mt_InvalidOrder (c : CS) : Addr → Option Bool := fun C => if C ∈ [c.InvalidOrder] then some true else if C ∈ [c.WrapError, c.InvalidRow, c.InvalidStack, c.InvalidText, c.NoRow] then some false else none
def okq_Row (c : CS) : Addr → Ty → Bool := fun C y => match y with | .cls D => decide (C ∈ [c.Keep, c.Tries, c.Limit, c.Leave, c.Soft, c.Count, c.Lend]) && decide (D ∈ [c.Keep, c.Tries, c.Limit, c.Leave, c.Soft, c.Count, c.Lend]) | _ => false
def okq_Stack (c : CS) : Addr → Ty → Bool := fun C y => match y with | .cls D => decide (C ∈ [c.Stack]) && decide (D ∈ [c.Stack]) | _ => false
def ok_Row (c : CS) : Addr → Bool := fun C => decide (C ∈ [c.Row, c.Keep, c.Tries, c.Limit, c.Leave, c.Soft, c.Count, c.Lend])
def ok_Stack (c : CS) : Addr → Bool := fun C => decide (C ∈ [c.Stack])
def okA (c : CS) : Addr → Bool := fun C => decide (C ∈ [c.Row, c.Keep, c.Tries, c.Limit, c.Leave, c.Soft, c.Count, c.Lend, c.Stack])
variable {c : CS}
abbrev n_source : List Str := ["_law_script", "_law_base", "_law_cells", "_law_mixed_here", "_law_cell"]
theorem sc_source : FnScope n_source ["_law_script", "_law_base"] (defScope s_law_source) := ⟨rfl, rfl, rfl, by decide +kernel, rfl, by decide +kernel, by decide +kernel⟩
def b_source (c : CS) : VS := (vSeq (vSet 2 (vVal (vComp [4] (vItems (vVal (vSliceL (vVar 0) (vPart (vVar 1)) (vPart (vC (.int 62)))))) (vgName 4) vYes (vB gAbs (vCons (vB gInt1 (vCons (vVar 4) vNil)) vNil)))))
    (vSeq (vSet 3 (vBin gAdd (vC (.int 73939133)) (vBin dMul (vC (.int 67)) (vVar 1))))
    (vSeq (vPre [4] (vFor (vItems (vVar 2)) (vgName 4) (vBody [4] (vSet 3 (vBin dMod (vB gInt1 (vCons (vBin gAdd (vBin gAdd (vBin dMul (vVar 3) (vC (.int 30671))) (vBin dMod (vB gInt1 (vCons (vVar 4) vNil)) (vC (.int 2147483423)))) (vC (.int 31))) vNil)) (vC (.int 2147483647)))))))
    (vRet (vDisp [("great", (vOwn (vRev (vVal (vComp [4] (vItems (vVar 2)) (vgName 4) (vTest (vBin dGe (vVar 4) (vBin dPow (vC (.int 10)) (vC (.int 18))))) (vVar 4)))))), ("mixed", (vVar 3))])))))
def f_source (c : CS) : VF := vDef 5 (b_source c)
theorem okv_source {f : Addr} {fd : FuncData} (F : Fun K "_law_source" "_law_source" s_law_source f fd) (B : Bn mg) : FnOk P w K mg base (L2.CX P w) 1 f fd ["_law_script", "_law_base"] (SpV K 2 (f_source c)) :=
  okVn F sc_source (by decide +kernel) fun cdv A outer s H E hr => (pss_vcons (ps_vsetLc (own := [("_law_cell", 4)]) (by decide) rfl sc_source.nd (i := 2) rfl rfl (sw_true rfl rfl rfl (by decide +kernel)) (pi_vseq (pe_vval (pe_vsliceL (pe_vvar 0) (po_vsome (pe_vvar 1)) (po_vsome pe_vint)))) (blkOk_by (N := n_source) (sc := defScope s_law_source) (by decide +kernel)) (fun _ _ _ _ _ => (pg_vname (i := 4) sc_source.nd rfl (Or.inl rfl))) (fun _ _ _ _ _ => pts_vnil) (fun _ _ _ _ _ => (pe_vcallB cv_abs call_abs (by rfl) B.abs_ (by decide +kernel) (pa_vcons (pe_vcallTy cv_int call_int1 (by rfl) B.int_ (by decide +kernel) (pa_vcons (pe_vvar 4) pa_vnil)) pa_vnil))))
    (pss_vcons (ps_vset (i := 3) sc_source.nd rfl (Or.inl rfl) (pe_vadd pe_vint (pe_vmul pe_vint (pe_vvar 1))))
    (pss_vcons (ps_vpre [4] (ps_vfor (passes_of rfl) rfl (pi_vseq (pe_vvar 2)) (pg_vname (i := 4) sc_source.nd rfl (Or.inl rfl)) (pss_vbody [4] (pss_vone (ps_vset (i := 3) sc_source.nd rfl (Or.inl rfl) (pe_vmod (pe_vcallTy cv_int call_int1 (by rfl) B.int_ (by decide +kernel) (pa_vcons (pe_vadd (pe_vadd (pe_vmul (pe_vvar 3) pe_vint) (pe_vmod (pe_vcallTy cv_int call_int1 (by rfl) B.int_ (by decide +kernel) (pa_vcons (pe_vvar 4) pa_vnil)) pe_vint)) pe_vint) pa_vnil)) pe_vint))))))
    (pss_vone (ps_vret (pe_vdisp (l := [("great", (vOwn (vRev (vVal (vComp [4] (vItems (vVar 2)) (vgName 4) (vTest (vBin dGe (vVar 4) (vBin dPow (vC (.int 10)) (vC (.int 18))))) (vVar 4)))))), ("mixed", (vVar 3))]) (pps_cons pe_str (pe_vown (pe_vrev (pe_vval (pe_vcomp (own := [("_law_cell", 4)]) (by decide) rfl sc_source.nd (pi_vseq (pe_vvar 2)) (blkOk_by (N := n_source) (sc := defScope s_law_source) (by decide +kernel)) (fun _ _ _ _ _ => (pg_vname (i := 4) sc_source.nd rfl (Or.inl rfl))) (fun _ _ _ _ _ => (pts_one (pt_vge (pe_vvar 4) (pe_vpow pe_vint pe_vint)))) (fun _ _ _ _ _ => (pe_vvar 4)))))) (pps_cons pe_str (pe_vvar 3) pps_nil)) (by rfl) (by rfl) (fun z => by cases z) (by decide)))))))
abbrev n_draw : List Str := ["_law_deal", "_law_wide", "_law_great", "_law_cell"]
theorem sc_draw : FnScope n_draw ["_law_deal", "_law_wide"] (defScope s_law_draw) := ⟨rfl, rfl, rfl, by decide +kernel, rfl, by decide +kernel, by decide +kernel⟩
def b_draw (c : CS) : VS := (vSeq (vSet 2 (vBin gRd (vVar 0) (vC (.str "great"))))
    (vSeq (vWh (vAnd (vTest (vBin dNe (vVar 2) (vVal (vLst vNil)))) (vTest (vBin dEq (vBin gIx (vVar 2) (vC (.int (-1)))) (vC (.int 0))))) (vBody [] (vDrop (vMet0 gPop (vVar 2)))) 1000)
    (vSeq (vIf (vTest (vBin dNe (vVar 2) (vVal (vLst vNil)))) (vSeq (vSet 3 (vMet0 gPop (vVar 2)))
    (vSeq (vDrop (vMet gAppend (vVar 2) (vCons (vBin dDiv (vVar 3) (vVar 1)) vNil)))
    (vRet (vBin dMod (vB gInt1 (vCons (vVar 3) vNil)) (vVar 1))))) vNext)
    (vSeq (vPut (vVar 0) (vC (.str "mixed")) (vBin dMod (vB gInt1 (vCons (vBin gAdd (vBin dMul (vBin gRd (vVar 0) (vC (.str "mixed"))) (vC (.int 30671))) (vC (.int 59))) vNil)) (vC (.int 2147483647))))
    (vRet (vBin dMod (vB gInt1 (vCons (vBin dDiv (vBin gRd (vVar 0) (vC (.str "mixed"))) (vC (.int 64))) vNil)) (vVar 1)))))))
def f_draw (c : CS) : VF := vDef 4 (b_draw c)
theorem okv_draw {f : Addr} {fd : FuncData} (F : Fun K "_law_draw" "_law_draw" s_law_draw f fd) (B : Bn mg) : FnOk P w K mg base (L2.CX P w) 1 f fd ["_law_deal", "_law_wide"] (SpV K 2 (f_draw c)) :=
  okVn F sc_draw (by decide +kernel) fun cdv A outer s H E hr => (pss_vcons (ps_vset (i := 2) sc_draw.nd rfl (Or.inl rfl) (pe_vrd (hu1 hr.units) (pe_vvar 0) pe_vstr (fun _ _ => rfl)))
    (pss_vcons (ps_vwhile 1000 (passes_of rfl) (PW.pt (pw_vand (pt_vne hr.units (pe_vvar 2) (pe_vval (pe_vlst pa_vnil))) (pw_vand1 (pt_veq hr.units (pe_vix (fun _ _ => rfl) (pe_vvar 2) pe_vneg) pe_vint)))) (pss_vbody [] (pss_vone (ps_vexpr (pe_vpop (pe_vvar 2))))))
    (pss_vcons (ps_vif (pt_vne hr.units (pe_vvar 2) (pe_vval (pe_vlst pa_vnil))) (pss_vcons (ps_vset (i := 3) sc_draw.nd rfl (Or.inl rfl) (pe_vpop (pe_vvar 2)))
    (pss_vcons (ps_vexpr (pe_vappend (pe_vvar 2) (pa_vcons (pe_vdiv (pe_vvar 3) (pe_vvar 1)) pa_vnil)))
    (pss_vone (ps_vret (pe_vmod (pe_vcallTy cv_int call_int1 (by rfl) B.int_ (by decide +kernel) (pa_vcons (pe_vvar 3) pa_vnil)) (pe_vvar 1)))))) pss_vnil)
    (pss_vcons (ps_vput (hu1 hr.units) (pe_vvar 0) pe_vstr (pe_vmod (pe_vcallTy cv_int call_int1 (by rfl) B.int_ (by decide +kernel) (pa_vcons (pe_vadd (pe_vmul (pe_vrd (hu1 hr.units) (pe_vvar 0) pe_vstr (fun _ _ => rfl)) pe_vint) pe_vint) pa_vnil)) pe_vint))
    (pss_vone (ps_vret (pe_vmod (pe_vcallTy cv_int call_int1 (by rfl) B.int_ (by decide +kernel) (pa_vcons (pe_vdiv (pe_vrd (hu1 hr.units) (pe_vvar 0) pe_vstr (fun _ _ => rfl)) pe_vint) pa_vnil)) (pe_vvar 1))))))))
abbrev n_pick : List Str := ["_law_deal", "_law_some"]
theorem sc_pick : FnScope n_pick ["_law_deal", "_law_some"] (defScope s_law_pick) := ⟨rfl, rfl, rfl, by decide +kernel, rfl, by decide +kernel, by decide +kernel⟩
def b_pick (c : CS) : VS := (vRet (vBin gIx (vVar 1) (vCall (f_draw c) (vCons (vVar 0) (vCons (vB gLen (vCons (vVar 1) vNil)) vNil)))))
def f_pick (c : CS) : VF := vDef 2 (b_pick c)
theorem okv_pick {f : Addr} {fd : FuncData} (F : Fun K "_law_pick" "_law_pick" s_law_pick f fd) (B : Bn mg) (D_draw : DV P w K mg base "_law_draw" 1 2 (f_draw c)) : FnOk P w K mg base (L2.CX P w) 2 f fd ["_law_deal", "_law_some"] (SpV K 2 (f_pick c)) :=
  okVn F sc_pick (by decide +kernel) fun cdv A outer s H E hr => (pss_vone (ps_vret (pe_vix (fun _ _ => rfl) (pe_vvar 1) (pe_vcall D_draw.g (hr.mono (by decide)) (by rfl) D_draw.m D_draw.kp D_draw.b (takes_of rfl rfl rfl rfl) (pa_vcons (pe_vvar 0) (pa_vcons (pe_vcallB cv_len call_len1 (by rfl) B.len_ (by decide +kernel) (pa_vcons (pe_vvar 1) pa_vnil)) pa_vnil)) (vcons_len (vcons_len vnil_len))))))
abbrev n_row : List Str := ["_law_deal", "_law_sort"]
theorem sc_row : FnScope n_row ["_law_deal", "_law_sort"] (defScope s_law_row) := ⟨rfl, rfl, rfl, by decide +kernel, rfl, by decide +kernel, by decide +kernel⟩
def b_row (c : CS) : VS := (vSeq (vIf (vTest (vBin dEq (vVar 1) (vC (.str "keep")))) (vRet (vTup (vCons (vVar 1) (vCons (vCall (f_pick c) (vCons (vVar 0) (vCons (vVal (vLst (vCons (vC (.str "good")) (vCons (vC (.str "all")) vNil)))) vNil))) (vCons (vCall (f_pick c) (vCons (vVar 0) (vCons (vVal (vLst (vCons (vC .non) (vCons (vC .non) (vCons (vC (.int 0)) (vCons (vC (.int 1)) (vCons (vC (.int 2)) (vCons (vC (.int 3)) vNil)))))))) vNil))) vNil))))) vNext)
    (vSeq (vIf (vTest (vBin dEq (vVar 1) (vC (.str "tries")))) (vRet (vTup (vCons (vVar 1) (vCons (vBin gAdd (vC (.int 1)) (vCall (f_draw c) (vCons (vVar 0) (vCons (vC (.int 3)) vNil)))) (vCons (vCall (f_pick c) (vCons (vVar 0) (vCons (vVal (vLst (vCons (vC (.str "fault")) (vCons (vC (.str "all")) vNil)))) vNil))) vNil))))) vNext)
    (vSeq (vIf (vTest (vBin dEq (vVar 1) (vC (.str "limit")))) (vRet (vTup (vCons (vVar 1) (vCons (vBin gAdd (vC (.int 1)) (vCall (f_draw c) (vCons (vVar 0) (vCons (vC (.int 4)) vNil)))) vNil)))) vNext)
    (vRet (vIfE (vTest (vBin dEq (vVar 1) (vC (.str "soft")))) (vTup (vCons (vVar 1) (vCons (vCall (f_pick c) (vCons (vVar 0) (vCons (vVal (vLst (vCons (vC (.str "fault")) (vCons (vC (.str "all")) vNil)))) vNil))) vNil))) (vTup (vCons (vVar 1) vNil)))))))
def f_row (c : CS) : VF := vDef 2 (b_row c)
theorem okv_row {f : Addr} {fd : FuncData} (F : Fun K "_law_row" "_law_row" s_law_row f fd) (B : Bn mg) (D_pick : DV P w K mg base "_law_pick" 2 2 (f_pick c)) (D_draw : DV P w K mg base "_law_draw" 1 2 (f_draw c)) : FnOk P w K mg base (L2.CX P w) 3 f fd ["_law_deal", "_law_sort"] (SpV K 2 (f_row c)) :=
  okVn F sc_row (by decide +kernel) fun cdv A outer s H E hr => (pss_vcons (ps_vif (pt_veq hr.units (pe_vvar 1) pe_vstr) (pss_vone (ps_vret (pe_vtup (pa_vcons (pe_vvar 1) (pa_vcons (pe_vcall D_pick.g (hr.mono (by decide)) (by rfl) D_pick.m D_pick.kp D_pick.b (takes_of rfl rfl rfl rfl) (pa_vcons (pe_vvar 0) (pa_vcons (pe_vval (pe_vlst (pa_vcons pe_vstr (pa_vcons pe_vstr pa_vnil)))) pa_vnil)) (vcons_len (vcons_len vnil_len))) (pa_vcons (pe_vcall D_pick.g (hr.mono (by decide)) (by rfl) D_pick.m D_pick.kp D_pick.b (takes_of rfl rfl rfl rfl) (pa_vcons (pe_vvar 0) (pa_vcons (pe_vval (pe_vlst (pa_vcons pe_vnon (pa_vcons pe_vnon (pa_vcons pe_vint (pa_vcons pe_vint (pa_vcons pe_vint (pa_vcons pe_vint pa_vnil)))))))) pa_vnil)) (vcons_len (vcons_len vnil_len))) pa_vnil)))))) pss_vnil)
    (pss_vcons (ps_vif (pt_veq hr.units (pe_vvar 1) pe_vstr) (pss_vone (ps_vret (pe_vtup (pa_vcons (pe_vvar 1) (pa_vcons (pe_vadd pe_vint (pe_vcall D_draw.g (hr.mono (by decide)) (by rfl) D_draw.m D_draw.kp D_draw.b (takes_of rfl rfl rfl rfl) (pa_vcons (pe_vvar 0) (pa_vcons pe_vint pa_vnil)) (vcons_len (vcons_len vnil_len)))) (pa_vcons (pe_vcall D_pick.g (hr.mono (by decide)) (by rfl) D_pick.m D_pick.kp D_pick.b (takes_of rfl rfl rfl rfl) (pa_vcons (pe_vvar 0) (pa_vcons (pe_vval (pe_vlst (pa_vcons pe_vstr (pa_vcons pe_vstr pa_vnil)))) pa_vnil)) (vcons_len (vcons_len vnil_len))) pa_vnil)))))) pss_vnil)
    (pss_vcons (ps_vif (pt_veq hr.units (pe_vvar 1) pe_vstr) (pss_vone (ps_vret (pe_vtup (pa_vcons (pe_vvar 1) (pa_vcons (pe_vadd pe_vint (pe_vcall D_draw.g (hr.mono (by decide)) (by rfl) D_draw.m D_draw.kp D_draw.b (takes_of rfl rfl rfl rfl) (pa_vcons (pe_vvar 0) (pa_vcons pe_vint pa_vnil)) (vcons_len (vcons_len vnil_len)))) pa_vnil))))) pss_vnil)
    (pss_vone (ps_vret (pe_vifE (pt_veq hr.units (pe_vvar 1) pe_vstr) (pe_vtup (pa_vcons (pe_vvar 1) (pa_vcons (pe_vcall D_pick.g (hr.mono (by decide)) (by rfl) D_pick.m D_pick.kp D_pick.b (takes_of rfl rfl rfl rfl) (pa_vcons (pe_vvar 0) (pa_vcons (pe_vval (pe_vlst (pa_vcons pe_vstr (pa_vcons pe_vstr pa_vnil)))) pa_vnil)) (vcons_len (vcons_len vnil_len))) pa_vnil))) (pe_vtup (pa_vcons (pe_vvar 1) pa_vnil))))))))
abbrev n_mixed : List Str := ["_law_deal", "_law_some", "_law_turn", "_law_others", "_law_found"]
theorem sc_mixed : FnScope n_mixed ["_law_deal", "_law_some"] (defScope s_law_mixed) := ⟨rfl, rfl, rfl, by decide +kernel, rfl, by decide +kernel, by decide +kernel⟩
def b_mixed (c : CS) : VS := (vSeq (vFrz 4 (vFrz 3 (vPar 3 4 (vCons (vOwn (vBN gListOf (vCons (vVar 1) vNil))) (vCons (vOwn (vLst vNil)) vNil)))))
    (vSeq (vPre [2] (vFor (vRange (vB gLen (vCons (vVar 3) vNil))) (vgName 2) (vBody [2] (vDrop (vMet gAppend (vVar 4) (vCons (vMet gPopAt (vVar 3) (vCons (vCall (f_draw c) (vCons (vVar 0) (vCons (vB gLen (vCons (vVar 3) vNil)) vNil))) vNil)) vNil))))))
    (vFrz 4 (vRet (vVar 4)))))
def f_mixed (c : CS) : VF := vDef 5 (b_mixed c)
theorem okv_mixed {f : Addr} {fd : FuncData} (F : Fun K "_law_mixed" "_law_mixed" s_law_mixed f fd) (B : Bn mg) (D_draw : DV P w K mg base "_law_draw" 1 2 (f_draw c)) : FnOk P w K mg base (L2.CX P w) 2 f fd ["_law_deal", "_law_some"] (SpV K 2 (f_mixed c)) :=
  okVn F sc_mixed (by decide +kernel) fun cdv A outer s H E hr => (pss_vcons (ps_frz 4 (ps_frz 3 (ps_vpar (i := 3) (j := 4) rfl sc_mixed.nd rfl rfl (by decide) rfl rfl (pa_vcons (pe_vown (pe_vcallTyN cv_list call_list_of (by rfl) B.list_ (by decide +kernel) (pa_vcons (pe_vvar 1) pa_vnil))) (pa_vcons (pe_vown (pe_vlst pa_vnil)) pa_vnil)) (by rfl))))
    (pss_vcons (ps_vpre [2] (ps_vfor (passes_of rfl) rfl (pi_vrange (by rfl) B.range_ (pe_vcallB cv_len call_len1 (by rfl) B.len_ (by decide +kernel) (pa_vcons (pe_vvar 3) pa_vnil))) (pg_vname (i := 2) sc_mixed.nd rfl (Or.inl rfl)) (pss_vbody [2] (pss_vone (ps_vexpr (pe_vappend (pe_vvar 4) (pa_vcons (pe_vpopAt (pe_vvar 3) (pa_vcons (pe_vcall D_draw.g (hr.mono (by decide)) (by rfl) D_draw.m D_draw.kp D_draw.b (takes_of rfl rfl rfl rfl) (pa_vcons (pe_vvar 0) (pa_vcons (pe_vcallB cv_len call_len1 (by rfl) B.len_ (by decide +kernel) (pa_vcons (pe_vvar 3) pa_vnil)) pa_vnil)) (vcons_len (vcons_len vnil_len))) pa_vnil)) pa_vnil)))))))
    (pss_vone (ps_frz 4 (ps_vret (pe_vvar 4))))))
abbrev n_rows : List Str := ["_law_deal", "_law_amount", "_law_sorts", "_law_sort"]
theorem sc_rows : FnScope n_rows ["_law_deal", "_law_amount"] (defScope s_law_rows) := ⟨rfl, rfl, rfl, by decide +kernel, rfl, by decide +kernel, by decide +kernel⟩
def b_rows (c : CS) : VS := (vSeq (vSet 2 (vVal (vLst (vCons (vC (.str "keep")) (vCons (vC (.str "tries")) (vCons (vC (.str "limit")) (vCons (vC (.str "leave")) (vCons (vC (.str "soft")) (vCons (vC (.str "count")) (vCons (vC (.str "lend")) (vCons (vC (.str "keep")) (vCons (vC (.str "tries")) (vCons (vC (.str "soft")) (vCons (vC (.str "count")) (vCons (vC (.str "leave")) vNil)))))))))))))))
    (vRet (vVal (vComp [3] (vItems (vVal (vSliceL (vCall (f_mixed c) (vCons (vVar 0) (vCons (vVar 2) vNil))) vNoPart (vPart (vVar 1))))) (vgName 3) vYes (vCall (f_row c) (vCons (vVar 0) (vCons (vVar 3) vNil)))))))
def f_rows (c : CS) : VF := vDef 4 (b_rows c)
theorem okv_rows {f : Addr} {fd : FuncData} (F : Fun K "_law_rows" "_law_rows" s_law_rows f fd) (B : Bn mg) (D_mixed : DV P w K mg base "_law_mixed" 2 2 (f_mixed c)) (D_row : DV P w K mg base "_law_row" 3 2 (f_row c)) : FnOk P w K mg base (L2.CX P w) 4 f fd ["_law_deal", "_law_amount"] (SpV K 2 (f_rows c)) :=
  okVn F sc_rows (by decide +kernel) fun cdv A outer s H E hr => (pss_vcons (ps_vset (i := 2) sc_rows.nd rfl (Or.inl rfl) (pe_vval (pe_vlst (pa_vcons pe_vstr (pa_vcons pe_vstr (pa_vcons pe_vstr (pa_vcons pe_vstr (pa_vcons pe_vstr (pa_vcons pe_vstr (pa_vcons pe_vstr (pa_vcons pe_vstr (pa_vcons pe_vstr (pa_vcons pe_vstr (pa_vcons pe_vstr (pa_vcons pe_vstr pa_vnil)))))))))))))))
    (pss_vone (ps_vret (pe_vval (pe_vcomp (own := [("_law_sort", 3)]) (by decide) rfl sc_rows.nd (pi_vseq (pe_vval (pe_vsliceL (pe_vcall D_mixed.g (hr.mono (by decide)) (by rfl) D_mixed.m D_mixed.kp D_mixed.b (takes_of rfl rfl rfl rfl) (pa_vcons (pe_vvar 0) (pa_vcons (pe_vvar 2) pa_vnil)) (vcons_len (vcons_len vnil_len))) po_vnone (po_vsome (pe_vvar 1))))) (blkOk_by (N := n_rows) (sc := defScope s_law_rows) (by decide +kernel)) (fun _ _ _ _ _ => (pg_vname (i := 3) sc_rows.nd rfl (Or.inl rfl))) (fun _ _ _ _ _ => pts_vnil) (fun _ _ _ _ _ => (pe_vcall D_row.g (hr.mono (by decide)) (by rfl) D_row.m D_row.kp D_row.b takes0 (pa_vcons (pe_vvar 0) (pa_vcons (pe_vvar 3) pa_vnil)) (vcons_len (vcons_len vnil_len)))))))))
abbrev n_lot_rows : List Str := ["_law_deal", "_law_amount", "_law_found", "_law_row_here"]
theorem sc_lot_rows : FnScope n_lot_rows ["_law_deal", "_law_amount"] (defScope s_law_lot_rows) := ⟨rfl, rfl, rfl, by decide +kernel, rfl, by decide +kernel, by decide +kernel⟩
def b_lot_rows (c : CS) : VS := (vSeq (vSet 2 (vOwn (vLst vNil)))
    (vSeq (vPre [3] (vFor (vItems (vCall (f_rows c) (vCons (vVar 0) (vCons (vVar 1) vNil)))) (vgName 3) (vBody [3] (vSeq (vIf (vAnd (vTest (vBin dEq (vBin gIx (vVar 3) (vC (.int 0))) (vC (.str "keep")))) (vTest (vBin (gInFlat false) (vBin gIx (vVar 3) (vC (.int 2))) (vTup (vCons (vC (.int 2)) (vCons (vC (.int 3)) vNil)))))) (vSet 3 (vTup (vCons (vBin gIx (vVar 3) (vC (.int 0))) (vCons (vBin gIx (vVar 3) (vC (.int 1))) (vCons (vBin dSub (vBin gIx (vVar 3) (vC (.int 2))) (vC (.int 2))) vNil))))) vNext)
    (vSeq (vIf (vAnd (vTest (vBin dEq (vBin gIx (vVar 3) (vC (.int 0))) (vC (.str "tries")))) (vTest (vBin dEq (vBin gIx (vVar 3) (vC (.int 1))) (vC (.int 3))))) (vSet 3 (vTup (vCons (vBin gIx (vVar 3) (vC (.int 0))) (vCons (vC (.int 2)) (vCons (vBin gIx (vVar 3) (vC (.int 2))) vNil))))) vNext)
    (vDrop (vMet gAppend (vVar 2) (vCons (vVar 3) vNil))))))))
    (vFrz 2 (vRet (vIfE (vTest (vBin dGt (vB gLen (vCons (vVal (vComp [3] (vItems (vVar 2)) (vgName 3) (vTest (vBin dEq (vBin gIx (vVar 3) (vC (.int 0))) (vC (.str "keep")))) (vVar 3))) vNil)) (vC (.int 1)))) (vVal (vSliceL (vVar 2) vNoPart (vPart (vC (.int 3))))) (vVar 2))))))
def f_lot_rows (c : CS) : VF := vDef 4 (b_lot_rows c)
theorem okv_lot_rows {f : Addr} {fd : FuncData} (F : Fun K "_law_lot_rows" "_law_lot_rows" s_law_lot_rows f fd) (B : Bn mg) (D_rows : DV P w K mg base "_law_rows" 4 2 (f_rows c)) : FnOk P w K mg base (L2.CX P w) 5 f fd ["_law_deal", "_law_amount"] (SpV K 2 (f_lot_rows c)) :=
  okVn F sc_lot_rows (by decide +kernel) fun cdv A outer s H E hr => (pss_vcons (ps_vset (i := 2) sc_lot_rows.nd rfl (Or.inl rfl) (pe_vown (pe_vlst pa_vnil)))
    (pss_vcons (ps_vpre [3] (ps_vfor (passes_of rfl) rfl (pi_vseq (pe_vcall D_rows.g (hr.mono (by decide)) (by rfl) D_rows.m D_rows.kp D_rows.b (takes_of rfl rfl rfl rfl) (pa_vcons (pe_vvar 0) (pa_vcons (pe_vvar 1) pa_vnil)) (vcons_len (vcons_len vnil_len)))) (pg_vname (i := 3) sc_lot_rows.nd rfl (Or.inl rfl)) (pss_vbody [3] (pss_vcons (ps_vif (PW.pt (pw_vand (pt_veq hr.units (pe_vix (fun _ _ => rfl) (pe_vvar 3) pe_vint) pe_vstr) (pw_vand1 (pt_vinF (by rfl) (pe_vix (fun _ _ => rfl) (pe_vvar 3) pe_vint) (pe_vtup (pa_vcons pe_vint (pa_vcons pe_vint pa_vnil))))))) (pss_vone (ps_vset (i := 3) sc_lot_rows.nd rfl (Or.inl rfl) (pe_vtup (pa_vcons (pe_vix (fun _ _ => rfl) (pe_vvar 3) pe_vint) (pa_vcons (pe_vix (fun _ _ => rfl) (pe_vvar 3) pe_vint) (pa_vcons (pe_vsub (pe_vix (fun _ _ => rfl) (pe_vvar 3) pe_vint) pe_vint) pa_vnil)))))) pss_vnil)
    (pss_vcons (ps_vif (PW.pt (pw_vand (pt_veq hr.units (pe_vix (fun _ _ => rfl) (pe_vvar 3) pe_vint) pe_vstr) (pw_vand1 (pt_veq hr.units (pe_vix (fun _ _ => rfl) (pe_vvar 3) pe_vint) pe_vint)))) (pss_vone (ps_vset (i := 3) sc_lot_rows.nd rfl (Or.inl rfl) (pe_vtup (pa_vcons (pe_vix (fun _ _ => rfl) (pe_vvar 3) pe_vint) (pa_vcons pe_vint (pa_vcons (pe_vix (fun _ _ => rfl) (pe_vvar 3) pe_vint) pa_vnil)))))) pss_vnil)
    (pss_vone (ps_vexpr (pe_vappend (pe_vvar 2) (pa_vcons (pe_vvar 3) pa_vnil)))))))))
    (pss_vone (ps_frz 2 (ps_vret (pe_vifE (pt_vgt (pe_vcallB cv_len call_len1 (by rfl) B.len_ (by decide +kernel) (pa_vcons (pe_vval (pe_vcomp (own := [("_law_row_here", 3)]) (by decide) rfl sc_lot_rows.nd (pi_vseq (pe_vvar 2)) (blkOk_by (N := n_lot_rows) (sc := defScope s_law_lot_rows) (by decide +kernel)) (fun _ _ _ _ _ => (pg_vname (i := 3) sc_lot_rows.nd rfl (Or.inl rfl))) (fun _ _ _ _ _ => (pts_one (pt_veq hr.units (pe_vix (fun _ _ => rfl) (pe_vvar 3) pe_vint) pe_vstr))) (fun _ _ _ _ _ => (pe_vvar 3)))) pa_vnil)) pe_vint) (pe_vval (pe_vsliceL (pe_vvar 2) po_vnone (po_vsome pe_vint))) (pe_vvar 2)))))))
abbrev n_orders : List Str := ["_law_amount", "_law_found", "_law_turn", "_law_longer", "_law_order", "_law_at"]
theorem sc_orders : FnScope n_orders ["_law_amount"] (defScope s_law_orders) := ⟨rfl, rfl, rfl, by decide +kernel, rfl, by decide +kernel, by decide +kernel⟩
def b_orders (c : CS) : VS := (vSeq (vSet 1 (vVal (vLst (vCons (vTup vNil) vNil))))
    (vSeq (vPre [2, 3, 4] (vFor (vRange (vVar 0)) (vgName 2) (vBody [2, 3, 4] (vSeq (vSet 3 (vOwn (vLst vNil)))
    (vSeq (vPre [4] (vFor (vItems (vVar 1)) (vgName 4) (vBody [4] (vDrop (vMet gExtend (vVar 3) (vCons (vVal (vComp [5] (vRange (vVar 0)) (vgName 5) (vTest (vBin (gIn true) (vVar 5) (vVar 4))) (vBin gAdd (vVar 4) (vTup (vCons (vVar 5) vNil))))) vNil))))))
    (vFrz 3 (vSet 1 (vVar 3))))))))
    (vRet (vVar 1))))
def f_orders (c : CS) : VF := vDef 6 (b_orders c)
theorem okv_orders {f : Addr} {fd : FuncData} (F : Fun K "_law_orders" "_law_orders" s_law_orders f fd) (B : Bn mg) : FnOk P w K mg base (L2.CX P w) 1 f fd ["_law_amount"] (SpV K 1 (f_orders c)) :=
  okVn F sc_orders (by decide +kernel) fun cdv A outer s H E hr => (pss_vcons (ps_vset (i := 1) sc_orders.nd rfl (Or.inl rfl) (pe_vval (pe_vlst (pa_vcons (pe_vtup pa_vnil) pa_vnil))))
    (pss_vcons (ps_vpre [2, 3, 4] (ps_vfor (passes_of rfl) rfl (pi_vrange (by rfl) B.range_ (pe_vvar 0)) (pg_vname (i := 2) sc_orders.nd rfl (Or.inl rfl)) (pss_vbody [2, 3, 4] (pss_vcons (ps_vset (i := 3) sc_orders.nd rfl (Or.inl rfl) (pe_vown (pe_vlst pa_vnil)))
    (pss_vcons (ps_vpre [4] (ps_vfor (passes_of rfl) rfl (pi_vseq (pe_vvar 1)) (pg_vname (i := 4) sc_orders.nd rfl (by first | exact Or.inr rfl | exact Or.inl rfl)) (pss_vbody [4] (pss_vone (ps_vexpr (pe_vextend (pe_vvar 3) (pa_vcons (pe_vval (pe_vcomp (own := [("_law_at", 5)]) (by decide) rfl sc_orders.nd (pi_vrange (by rfl) B.range_ (pe_vvar 0)) (blkOk_by (N := n_orders) (sc := defScope s_law_orders) (by decide +kernel)) (fun _ _ _ _ _ => (pg_vname (i := 5) sc_orders.nd rfl (Or.inl rfl))) (fun _ _ _ _ _ => (pts_one (pt_vnotin (u65 hr) (by rfl) (pe_vvar 5) (pe_vvar 4)))) (fun _ _ _ _ _ => (pe_vadd (pe_vvar 4) (pe_vtup (pa_vcons (pe_vvar 5) pa_vnil)))))) pa_vnil)))))))
    (pss_vone (ps_frz 3 (ps_vset (i := 1) sc_orders.nd rfl (Or.inl rfl) (pe_vvar 3)))))))))
    (pss_vone (ps_vret (pe_vvar 1)))))
abbrev n_Keep_words : List Str := ["self", "life"]
theorem sc_Keep_words : FnScope n_Keep_words ["self"] (defScope s_Keep_words) := ⟨rfl, rfl, rfl, by decide +kernel, rfl, by decide +kernel, by decide +kernel⟩
def b_Keep_words (c : CS) : VS := (vSeq (vSet 1 (vIfE (vTest (vIsN false (vFld (okA c) "life" (vVar 0)))) (vC (.str "ever")) (vB gStrF (vCons (vFld (okA c) "life" (vVar 0)) vNil))))
    (vRet (vTup (vCons (vC (.str "keep")) (vCons (vFld (okA c) "what" (vVar 0)) (vCons (vVar 1) vNil))))))
def f_Keep_words (c : CS) : VF := vDef 2 (b_Keep_words c)
theorem okv_Keep_words {f : Addr} {fd : FuncData} (F : Fun K "words" "Keep.words" s_Keep_words f fd) (B : Bn mg) (O_what : FldOk K "what" (okA c)) (O_life : FldOk K "life" (okA c)) : FnOk P w K mg base (L2.CX P w) 1 f fd ["self"] (SpV K 1 (f_Keep_words c)) :=
  okVn F sc_Keep_words (by decide +kernel) fun cdv A outer s H E hr => (pss_vcons (ps_vset (i := 1) sc_Keep_words.nd rfl (Or.inl rfl) (pe_vifE (pt_visN (pe_vfld (okA c) O_life (pe_vvar 0))) pe_vstr (pe_vcallTy cv_strF call_strF (by rfl) B.str_ (by decide +kernel) (pa_vcons (pe_vfld (okA c) O_life (pe_vvar 0)) pa_vnil))))
    (pss_vone (ps_vret (pe_vtup (pa_vcons pe_vstr (pa_vcons (pe_vfld (okA c) O_what (pe_vvar 0)) (pa_vcons (pe_vvar 1) pa_vnil)))))))
abbrev n_Tries_words : List Str := ["self"]
theorem sc_Tries_words : FnScope n_Tries_words ["self"] (defScope s_Tries_words) := ⟨rfl, rfl, rfl, by decide +kernel, rfl, by decide +kernel, by decide +kernel⟩
def b_Tries_words (c : CS) : VS := (vRet (vTup (vCons (vC (.str "tries")) (vCons (vB gStrF (vCons (vFld (okA c) "many" (vVar 0)) vNil)) (vCons (vFld (okA c) "on" (vVar 0)) vNil)))))
def f_Tries_words (c : CS) : VF := vDef 1 (b_Tries_words c)
theorem okv_Tries_words {f : Addr} {fd : FuncData} (F : Fun K "words" "Tries.words" s_Tries_words f fd) (B : Bn mg) (O_on : FldOk K "on" (okA c)) (O_many : FldOk K "many" (okA c)) : FnOk P w K mg base (L2.CX P w) 1 f fd ["self"] (SpV K 1 (f_Tries_words c)) :=
  okVn F sc_Tries_words (by decide +kernel) fun cdv A outer s H E hr => (pss_vone (ps_vret (pe_vtup (pa_vcons pe_vstr (pa_vcons (pe_vcallTy cv_strF call_strF (by rfl) B.str_ (by decide +kernel) (pa_vcons (pe_vfld (okA c) O_many (pe_vvar 0)) pa_vnil)) (pa_vcons (pe_vfld (okA c) O_on (pe_vvar 0)) pa_vnil))))))
abbrev n_Limit_words : List Str := ["self"]
theorem sc_Limit_words : FnScope n_Limit_words ["self"] (defScope s_Limit_words) := ⟨rfl, rfl, rfl, by decide +kernel, rfl, by decide +kernel, by decide +kernel⟩
def b_Limit_words (c : CS) : VS := (vRet (vTup (vCons (vC (.str "limit")) (vCons (vB gStrF (vCons (vFld (okA c) "many" (vVar 0)) vNil)) vNil))))
def f_Limit_words (c : CS) : VF := vDef 1 (b_Limit_words c)
theorem okv_Limit_words {f : Addr} {fd : FuncData} (F : Fun K "words" "Limit.words" s_Limit_words f fd) (B : Bn mg) (O_many : FldOk K "many" (okA c)) : FnOk P w K mg base (L2.CX P w) 1 f fd ["self"] (SpV K 1 (f_Limit_words c)) :=
  okVn F sc_Limit_words (by decide +kernel) fun cdv A outer s H E hr => (pss_vone (ps_vret (pe_vtup (pa_vcons pe_vstr (pa_vcons (pe_vcallTy cv_strF call_strF (by rfl) B.str_ (by decide +kernel) (pa_vcons (pe_vfld (okA c) O_many (pe_vvar 0)) pa_vnil)) pa_vnil)))))
abbrev n_Leave_words : List Str := ["self"]
theorem sc_Leave_words : FnScope n_Leave_words ["self"] (defScope s_Leave_words) := ⟨rfl, rfl, rfl, by decide +kernel, rfl, by decide +kernel, by decide +kernel⟩
def b_Leave_words (c : CS) : VS := (vRet (vTup (vCons (vC (.str "leave")) vNil)))
def f_Leave_words (c : CS) : VF := vDef 1 (b_Leave_words c)
theorem okv_Leave_words {f : Addr} {fd : FuncData} (F : Fun K "words" "Leave.words" s_Leave_words f fd) (B : Bn mg) : FnOk P w K mg base (L2.CX P w) 1 f fd ["self"] (SpV K 1 (f_Leave_words c)) :=
  okVn F sc_Leave_words (by decide +kernel) fun cdv A outer s H E hr => (pss_vone (ps_vret (pe_vtup (pa_vcons pe_vstr pa_vnil))))
abbrev n_Soft_words : List Str := ["self"]
theorem sc_Soft_words : FnScope n_Soft_words ["self"] (defScope s_Soft_words) := ⟨rfl, rfl, rfl, by decide +kernel, rfl, by decide +kernel, by decide +kernel⟩
def b_Soft_words (c : CS) : VS := (vRet (vTup (vCons (vC (.str "soft")) (vCons (vFld (okA c) "on" (vVar 0)) vNil))))
def f_Soft_words (c : CS) : VF := vDef 1 (b_Soft_words c)
theorem okv_Soft_words {f : Addr} {fd : FuncData} (F : Fun K "words" "Soft.words" s_Soft_words f fd) (B : Bn mg) (O_on : FldOk K "on" (okA c)) : FnOk P w K mg base (L2.CX P w) 1 f fd ["self"] (SpV K 1 (f_Soft_words c)) :=
  okVn F sc_Soft_words (by decide +kernel) fun cdv A outer s H E hr => (pss_vone (ps_vret (pe_vtup (pa_vcons pe_vstr (pa_vcons (pe_vfld (okA c) O_on (pe_vvar 0)) pa_vnil)))))
abbrev n_Count_words : List Str := ["self"]
theorem sc_Count_words : FnScope n_Count_words ["self"] (defScope s_Count_words) := ⟨rfl, rfl, rfl, by decide +kernel, rfl, by decide +kernel, by decide +kernel⟩
def b_Count_words (c : CS) : VS := (vRet (vTup (vCons (vC (.str "count")) vNil)))
def f_Count_words (c : CS) : VF := vDef 1 (b_Count_words c)
theorem okv_Count_words {f : Addr} {fd : FuncData} (F : Fun K "words" "Count.words" s_Count_words f fd) (B : Bn mg) : FnOk P w K mg base (L2.CX P w) 1 f fd ["self"] (SpV K 1 (f_Count_words c)) :=
  okVn F sc_Count_words (by decide +kernel) fun cdv A outer s H E hr => (pss_vone (ps_vret (pe_vtup (pa_vcons pe_vstr pa_vnil))))
abbrev n_Lend_words : List Str := ["self"]
theorem sc_Lend_words : FnScope n_Lend_words ["self"] (defScope s_Lend_words) := ⟨rfl, rfl, rfl, by decide +kernel, rfl, by decide +kernel, by decide +kernel⟩
def b_Lend_words (c : CS) : VS := (vRet (vTup (vCons (vC (.str "lend")) vNil)))
def f_Lend_words (c : CS) : VF := vDef 1 (b_Lend_words c)
theorem okv_Lend_words {f : Addr} {fd : FuncData} (F : Fun K "words" "Lend.words" s_Lend_words f fd) (B : Bn mg) : FnOk P w K mg base (L2.CX P w) 1 f fd ["self"] (SpV K 1 (f_Lend_words c)) :=
  okVn F sc_Lend_words (by decide +kernel) fun cdv A outer s H E hr => (pss_vone (ps_vret (pe_vtup (pa_vcons pe_vstr pa_vnil))))
def tb_words (c : CS) : Addr → Option VF := fun C => if C = c.Keep then some (f_Keep_words c) else if C = c.Tries then some (f_Tries_words c) else if C = c.Limit then some (f_Limit_words c) else if C = c.Leave then some (f_Leave_words c) else if C = c.Soft then some (f_Soft_words c) else if C = c.Count then some (f_Count_words c) else if C = c.Lend then some (f_Lend_words c) else none
abbrev n_Row_str : List Str := ["self"]
theorem sc_Row_str : FnScope n_Row_str ["self"] (defScope s_Row_str) := ⟨rfl, rfl, rfl, by decide +kernel, rfl, by decide +kernel, by decide +kernel⟩
def b_Row_str (c : CS) : VS := (vRet (vM1 gJoin (vC (.str " ")) (vMethD (tb_words c) "words" (vVar 0) vNil)))
def f_Row_str (c : CS) : VF := vDef 1 (b_Row_str c)
theorem okv_Row_str {f : Addr} {fd : FuncData} (F : Fun K "__str__" "Row.__str__" s_Row_str f fd) (B : Bn mg) (T_words : ∀ C vf, tb_words c C = some vf → MVd P w K mg base 1 "words" 1 C vf) : FnOk P w K mg base (L2.CX P w) 2 f fd ["self"] (SpV K 1 (f_Row_str c)) :=
  okVn F sc_Row_str (by decide +kernel) fun cdv A outer s H E hr => (pss_vone (ps_vret (pe_vjoin pe_vstr (pe_vmethD0 (takes_of rfl rfl rfl rfl) (fun C vf e => (T_words C vf e).mv (hr.mono (by decide))) (pe_vvar 0)))))
abbrev n_Stack_str : List Str := ["self", "row"]
theorem sc_Stack_str : FnScope n_Stack_str ["self"] (defScope s_Stack_str) := ⟨rfl, rfl, rfl, by decide +kernel, rfl, by decide +kernel, by decide +kernel⟩
def b_Stack_str (c : CS) : VS := (vRet (vM1 gJoin (vC (.str "\n")) (vVal (vComp [1] (vItems (vFld (okA c) "rows" (vVar 0))) (vgName 1) vYes (vB (gStrO (ok_Row c) (f_Row_str c)) (vCons (vVar 1) vNil))))))
def f_Stack_str (c : CS) : VF := vDef 2 (b_Stack_str c)
theorem okv_Stack_str {f : Addr} {fd : FuncData} (F : Fun K "__str__" "Stack.__str__" s_Stack_str f fd) (B : Bn mg) (O_rows : FldOk K "rows" (okA c)) (S_Row : DM P w K mg base 2 1 (f_Row_str c)) (W_Row : ∀ C, ok_Row c C = true → ∃ ge, Own.OwnC K C S_Row.a ge) : FnOk P w K mg base (L2.CX P w) 5 f fd ["self"] (SpV K 1 (f_Stack_str c)) :=
  okVn F sc_Stack_str (by decide +kernel) fun cdv A outer s H E hr => (pss_vone (ps_vret (pe_vjoin pe_vstr (pe_vval (pe_vcomp (own := [("row", 1)]) (by decide) rfl sc_Stack_str.nd (pi_vseq (pe_vfld (okA c) O_rows (pe_vvar 0))) (blkOk_by (N := n_Stack_str) (sc := defScope s_Stack_str) (by decide +kernel)) (fun _ _ _ _ _ => (pg_vname (i := 1) sc_Stack_str.nd rfl (Or.inl rfl))) (fun _ _ _ _ _ => pts_vnil) (fun _ _ _ _ _ => (pe_vstrO S_Row.g S_Row.b W_Row (hr.mono (by decide)) (by rfl) B.str_ (by decide +kernel) (pa_vcons (pe_vvar 1) pa_vnil))))))))
abbrev n_is_sequence : List Str := ["value"]
theorem sc_is_sequence : FnScope n_is_sequence ["value"] (defScope s_is_sequence) := ⟨rfl, rfl, rfl, by decide +kernel, rfl, by decide +kernel, by decide +kernel⟩
def b_is_sequence (c : CS) : VS := (vRet (vIsi (tab2 (tyTab isLstB (ctB c)) (tyTab isTupB (ctB c))) (vVar 0)))
def f_is_sequence (c : CS) : VF := vDef 1 (b_is_sequence c)
theorem okv_is_sequence {f : Addr} {fd : FuncData} (F : Fun K "is_sequence" "is_sequence" s_is_sequence f fd) (B : Bn mg) (I_list : CtOk K (.type "list") (ctB c)) (I_tuple : CtOk K (.type "tuple") (ctB c)) : FnOk P w K mg base (L2.CX P w) 1 f fd ["value"] (SpV K 1 (f_is_sequence c)) :=
  okVn F sc_is_sequence (by decide +kernel) fun cdv A outer s H E hr => (pss_vone (ps_vret (pe_visi2 (tab2 (tyTab isLstB (ctB c)) (tyTab isTupB (ctB c))) (isT2 (isT1 kLst I_list) (isT1 kTup I_tuple)) (by rfl) B.isinstance_ (pe_vvar 0) (pe_bltn (by rfl) B.list_ (by decide +kernel) (v := .ty "list") rfl) (pe_bltn (by rfl) B.tuple_ (by decide +kernel) (v := .ty "tuple") rfl) (.ty _) (.ty _))))
abbrev n_rows_of : List Str := ["value", "at", "row"]
theorem sc_rows_of : FnScope n_rows_of ["value"] (defScope s_rows_of) := ⟨rfl, rfl, rfl, by decide +kernel, rfl, by decide +kernel, by decide +kernel⟩
def b_rows_of (c : CS) : VS := (vSeq (vIf (vNot (vTest (vCall (f_is_sequence c) (vCons (vVar 0) vNil)))) vNever vNext)
    (vSeq (vPre [1, 2] (vFor (vEnum (vCons (vVar 0) vNil)) (vgTup [(vgName 1), (vgName 2)]) (vBody [1, 2] (vIf (vNot (vTest (vIsi (tyTab (fun _ => false) (ct_Row c)) (vVar 2)))) vNever vNext))))
    (vRet (vB gTupOf (vCons (vVar 0) vNil)))))
def f_rows_of (c : CS) : VF := vDef 3 (b_rows_of c)
theorem okv_rows_of {f : Addr} {fd : FuncData} (F : Fun K "rows_of" "rows_of" s_rows_of f fd) (B : Bn mg) (D_is_sequence : DV P w K mg base "is_sequence" 1 1 (f_is_sequence c)) (I_Row : IsT K [.ref c.Row] (tyTab (fun _ => false) (ct_Row c))) (M_Row : mg "Row" = some (.ref c.Row)) : FnOk P w K mg base (L2.CX P w) 2 f fd ["value"] (SpV K 1 (f_rows_of c)) :=
  okVn F sc_rows_of (by decide +kernel) fun cdv A outer s H E hr => (pss_vcons (ps_vif (pt_vnot (pt_vval (pe_vcall D_is_sequence.g (hr.mono (by decide)) (by rfl) D_is_sequence.m D_is_sequence.kp D_is_sequence.b (takes_of rfl rfl rfl rfl) (pa_vcons (pe_vvar 0) pa_vnil) (vcons_len vnil_len)))) (pss_vone ps_vnever) pss_vnil)
    (pss_vcons (ps_vpre [1, 2] (ps_vfor (passes_of rfl) rfl (pi_venum (by rfl) B.enumerate_ (pa_vcons (pe_vvar 0) pa_vnil)) (pg_vtup rfl (pgs_vcons (pg_vname (i := 1) sc_rows_of.nd rfl (Or.inl rfl)) (pgs_vcons (pg_vname (i := 2) sc_rows_of.nd rfl (Or.inl rfl)) pgs_vnil))) (pss_vbody [1, 2] (pss_vone (ps_vif (pt_vnot (pt_vval (pe_visi (tyTab (fun _ => false) (ct_Row c)) I_Row (by rfl) B.isinstance_ (pe_vvar 2) (pe_glob (v := .ref c.Row) (by rfl) M_Row rfl) (.own _)))) (pss_vone ps_vnever) pss_vnil)))))
    (pss_vone (ps_vret (pe_vcallTy cv_tup call_tuple_ofB (by rfl) B.tuple_ (by decide +kernel) (pa_vcons (pe_vvar 0) pa_vnil))))))
abbrev n_is_integer : List Str := ["value"]
theorem sc_is_integer : FnScope n_is_integer ["value"] (defScope s_is_integer) := ⟨rfl, rfl, rfl, by decide +kernel, rfl, by decide +kernel, by decide +kernel⟩
def b_is_integer (c : CS) : VS := (vRet (vAndV (vIsi (tyTab isIntB (ctB c)) (vVar 0)) (vNotV (vIsi (tyTab isBlB (ctB c)) (vVar 0)))))
def f_is_integer (c : CS) : VF := vDef 1 (b_is_integer c)
theorem okv_is_integer {f : Addr} {fd : FuncData} (F : Fun K "is_integer" "is_integer" s_is_integer f fd) (B : Bn mg) (I_bool : CtOk K (.type "bool") (ctB c)) (I_int : CtOk K (.type "int") (ctB c)) : FnOk P w K mg base (L2.CX P w) 1 f fd ["value"] (SpV K 1 (f_is_integer c)) :=
  okVn F sc_is_integer (by decide +kernel) fun cdv A outer s H E hr => (pss_vone (ps_vret (pe_vandV (pe_visi (tyTab isIntB (ctB c)) (isT1 kInt I_int) (by rfl) B.isinstance_ (pe_vvar 0) (pe_bltn (by rfl) B.int_ (by decide +kernel) (v := .ty "int") rfl) (.ty _)) (pe_vone (pe_vnotV (pe_visi (tyTab isBlB (ctB c)) (isT1 kBl I_bool) (by rfl) B.isinstance_ (pe_vvar 0) (pe_bltn (by rfl) B.bool_ (by decide +kernel) (v := .ty "bool") rfl) (.ty _)))))))
abbrev n_is_order : List Str := ["value", "many", "index"]
theorem sc_is_order : FnScope n_is_order ["value", "many"] (defScope s_is_order) := ⟨rfl, rfl, rfl, by decide +kernel, rfl, by decide +kernel, by decide +kernel⟩
def b_is_order (c : CS) : VS := (vSeq (vIf (vOr (vNot (vTest (vIsi (tyTab isTupB (ctB c)) (vVar 0)))) (vNot (vTest (vB (gBools (·.all id)) (vCons (vVal (vComp [2] (vItems (vVar 0)) (vgName 2) vYes (vCall (f_is_integer c) (vCons (vVar 2) vNil)))) vNil))))) (vRet (vC (.bl false))) vNext)
    (vRet (vBin dEq (vVal (vBN gSortA (vCons (vVar 0) vNil))) (vVal (vListRg (vVar 1))))))
def f_is_order (c : CS) : VF := vDef 3 (b_is_order c)
theorem okv_is_order {f : Addr} {fd : FuncData} (F : Fun K "is_order" "is_order" s_is_order f fd) (B : Bn mg) (D_is_integer : DV P w K mg base "is_integer" 1 1 (f_is_integer c)) (I_tuple : CtOk K (.type "tuple") (ctB c)) : FnOk P w K mg base (L2.CX P w) 2 f fd ["value", "many"] (SpV K 2 (f_is_order c)) :=
  okVn F sc_is_order (by decide +kernel) fun cdv A outer s H E hr => (pss_vcons (ps_vif (PW.pt (pw_vor (pt_vnot (pt_vval (pe_visi (tyTab isTupB (ctB c)) (isT1 kTup I_tuple) (by rfl) B.isinstance_ (pe_vvar 0) (pe_bltn (by rfl) B.tuple_ (by decide +kernel) (v := .ty "tuple") rfl) (.ty _)))) (pw_vor1 (pt_vnot (pt_vval (pe_vcallB cv_all (cr_all rfl) (by rfl) B.all_ (by decide +kernel) (pa_vcons (pe_vval (pe_vcomp (own := [("index", 2)]) (by decide) rfl sc_is_order.nd (pi_vseq (pe_vvar 0)) (blkOk_by (N := n_is_order) (sc := defScope s_is_order) (by decide +kernel)) (fun _ _ _ _ _ => (pg_vname (i := 2) sc_is_order.nd rfl (Or.inl rfl))) (fun _ _ _ _ _ => pts_vnil) (fun _ _ _ _ _ => (pe_vcall D_is_integer.g (hr.mono (by decide)) (by rfl) D_is_integer.m D_is_integer.kp D_is_integer.b takes0 (pa_vcons (pe_vvar 2) pa_vnil) (vcons_len vnil_len))))) pa_vnil))))))) (pss_vone (ps_vret pe_vbl)) pss_vnil)
    (pss_vone (ps_vret (pe_veq hr.units (pe_vval (pe_vcallBN cv_sortA (CallR.or (CallR.or cr_sortedI Own.cr_sortedT) (CallR.or (cr_sortedD (u66 hr)) (cr_sorted1 (u66 hr)))) (by rfl) B.sorted_ (by decide +kernel) (pa_vcons (pe_vvar 0) pa_vnil))) (pe_vval (pe_vlistRg rfl (by rfl) B.list_ (by rfl) B.range_ (pe_vvar 1)))))))
abbrev n_check_order : List Str := ["value", "many"]
theorem sc_check_order : FnScope n_check_order ["value", "many"] (defScope s_check_order) := ⟨rfl, rfl, rfl, by decide +kernel, rfl, by decide +kernel, by decide +kernel⟩
def b_check_order (c : CS) : VS := (vIf (vNot (vTest (vCall (f_is_order c) (vCons (vVar 0) (vCons (vVar 1) vNil))))) (vRaise0 c.InvalidOrder) vNext)
def f_check_order (c : CS) : VF := vDef 2 (b_check_order c)
theorem okv_check_order {f : Addr} {fd : FuncData} (F : Fun K "check_order" "check_order" s_check_order f fd) (B : Bn mg) (D_is_order : DV P w K mg base "is_order" 2 2 (f_is_order c)) (Z_InvalidOrder : MkZ P w K mg base 2 "InvalidOrder" c.InvalidOrder) : FnOk P w K mg base (L2.CX P w) 3 f fd ["value", "many"] (SpV K 2 (f_check_order c)) :=
  okVn F sc_check_order (by decide +kernel) fun cdv A outer s H E hr => (pss_vone (ps_vif (pt_vnot (pt_vval (pe_vcall D_is_order.g (hr.mono (by decide)) (by rfl) D_is_order.m D_is_order.kp D_is_order.b (takes_of rfl rfl rfl rfl) (pa_vcons (pe_vvar 0) (pa_vcons (pe_vvar 1) pa_vnil)) (vcons_len (vcons_len vnil_len))))) (pss_vone (ps_vraise0 Z_InvalidOrder rfl (takes_of rfl rfl rfl rfl) (hr.mono (by decide)) (by rfl))) pss_vnil))
abbrev n_Stack_init : List Str := ["self", "rows"]
theorem sc_Stack_init : FnScope n_Stack_init ["self", "rows"] (defScope s_Stack_init) := ⟨rfl, rfl, rfl, by decide +kernel, rfl, by decide +kernel, by decide +kernel⟩
def b_Stack_init (c : CS) : VS := (vSetF (okA c) "rows" (vVar 0) (vCall (f_rows_of c) (vCons (vVar 1) vNil)))
def f_Stack_init (c : CS) : VF := vDef 2 (b_Stack_init c)
theorem okv_Stack_init {f : Addr} {fd : FuncData} {dvs : List V} (F : FunD K "__init__" "Stack.__init__" (defArgs s_Stack_init) (defBody s_Stack_init) (defScope s_Stack_init) dvs [] f fd) (B : Bn mg) (D_rows_of : DV P w K mg base "rows_of" 2 1 (f_rows_of c)) (O_rows : FldOk K "rows" (okA c)) : FnOk P w K mg base (L2.CX P w) 3 f fd ["self", "rows"] (SpV K 2 (f_Stack_init c)) :=
  okVD F sc_Stack_init fun cdv A outer s H E hr => (pss_vone (ps_vsetF (okA c) O_rows (pe_vvar 0) (pe_vcall D_rows_of.g (hr.mono (by decide)) (by rfl) D_rows_of.m D_rows_of.kp D_rows_of.b (takes_of rfl rfl rfl rfl) (pa_vcons (pe_vvar 1) pa_vnil) (vcons_len vnil_len))))
abbrev n_stack_of : List Str := ["lot", "order", "rows", "index"]
theorem sc_stack_of : FnScope n_stack_of ["lot", "order"] (defScope s_stack_of) := ⟨rfl, rfl, rfl, by decide +kernel, rfl, by decide +kernel, by decide +kernel⟩
def b_stack_of (c : CS) : VS := (vSeq (vSet 2 (vCall (f_rows_of c) (vCons (vVar 0) vNil)))
    (vSeq (vDrop (vCall (f_check_order c) (vCons (vVar 1) (vCons (vB gLen (vCons (vVar 2) vNil)) vNil))))
    (vRet (vCutE (vInsD (vMake c.Stack (f_Stack_init c) (vCons (vVal (vComp [3] (vItems (vVar 1)) (vgName 3) vYes (vBin gIx (vVar 2) (vVar 3)))) vNil)))))))
def f_stack_of (c : CS) : VF := vDef 4 (b_stack_of c)
theorem okv_stack_of {f : Addr} {fd : FuncData} (F : Fun K "stack_of" "stack_of" s_stack_of f fd) (B : Bn mg) (D_check_order : DV P w K mg base "check_order" 3 2 (f_check_order c)) (D_rows_of : DV P w K mg base "rows_of" 2 1 (f_rows_of c)) (MI_Stack : MI P w K mg base 3 2 "Stack" c.Stack (f_Stack_init c)) : FnOk P w K mg base (L2.CX P w) 5 f fd ["lot", "order"] (SpV K 2 (f_stack_of c)) :=
  okVn F sc_stack_of (by decide +kernel) fun cdv A outer s H E hr => (pss_vcons (ps_vset (i := 2) sc_stack_of.nd rfl (by first | exact Or.inr rfl | exact Or.inl rfl) (pe_vcall D_rows_of.g (hr.mono (by decide)) (by rfl) D_rows_of.m D_rows_of.kp D_rows_of.b (takes_of rfl rfl rfl rfl) (pa_vcons (pe_vvar 0) pa_vnil) (vcons_len vnil_len)))
    (pss_vcons (ps_vexpr (pe_vcall D_check_order.g (hr.mono (by decide)) (by rfl) D_check_order.m D_check_order.kp D_check_order.b (takes_of rfl rfl rfl rfl) (pa_vcons (pe_vvar 1) (pa_vcons (pe_vcallB cv_len call_len1 (by rfl) B.len_ (by decide +kernel) (pa_vcons (pe_vvar 2) pa_vnil)) pa_vnil)) (vcons_len (vcons_len vnil_len))))
    (pss_vone (ps_vret (pe_vcut (pe_vinsD (pe_vmake MI_Stack.mks MI_Stack.g (hr.mono (by decide)) (by rfl) MI_Stack.m MI_Stack.b (takes_of rfl rfl rfl rfl) (pa_vcons (pe_vval (pe_vcomp (own := [("index", 3)]) (by decide) rfl sc_stack_of.nd (pi_vseq (pe_vvar 1)) (blkOk_by (N := n_stack_of) (sc := defScope s_stack_of) (by decide +kernel)) (fun _ _ _ _ _ => (pg_vname (i := 3) sc_stack_of.nd rfl (Or.inl rfl))) (fun _ _ _ _ _ => pts_vnil) (fun _ _ _ _ _ => (pe_vix (fun _ _ => rfl) (pe_vvar 2) (pe_vvar 3))))) pa_vnil) (by intro s ss m e; rw [(vcons_len vnil_len) s ss m e]))))))))
abbrev n_heard : List Str := ["_law_lot", "_law_value", "_law_found", "e"]
theorem sc_heard : FnScope n_heard ["_law_lot", "_law_value"] (defScope s_law_heard) := ⟨rfl, rfl, rfl, by decide +kernel, rfl, by decide +kernel, by decide +kernel⟩
def b_heard (c : CS) : VS := (vSeq (vSet 2 (vC .non))
    (vSeq (vTry (mt_InvalidOrder c) 3 (vSet 2 (vB (gStrO (ok_Stack c) (f_Stack_str c)) (vCons (vCall (f_stack_of c) (vCons (vVar 0) (vCons (vVar 1) vNil))) vNil))) (xSet 2 (xIf (xAnd (xIsi c.InvalidOrder true) (xNot (xIsi c.InvalidOrder false))) (fun _ _ => some (.str "order")) (fun _ _ => some (.str "other")))))
    (vRet (vVar 2))))
def f_heard (c : CS) : VF := vDef 4 (b_heard c)
theorem okv_heard {f : Addr} {fd : FuncData} (F : Fun K "_law_heard" "_law_heard" s_law_heard f fd) (B : Bn mg) (D_stack_of : DV P w K mg base "stack_of" 5 2 (f_stack_of c)) (TM_InvalidOrder : ∀ C b, mt_InvalidOrder c C = some b → PySem.W.exmOne K (.ref C) (.ref c.InvalidOrder) = some b) (M_InvalidOrder : mg "InvalidOrder" = some (.ref c.InvalidOrder)) (S_Stack : DM P w K mg base 5 1 (f_Stack_str c)) (W_Stack : ∀ C, ok_Stack c C = true → ∃ ge, Own.OwnC K C S_Stack.a ge) (EX_InvalidOrder : L2.ExcC K c.InvalidOrder) (KX_InvalidOrder_InvalidStack : PySem.W.kitOne K (.ref c.InvalidOrder) (.ref c.InvalidStack) = some false) (M_InvalidStack : mg "InvalidStack" = some (.ref c.InvalidStack)) (KX_InvalidOrder_WrapError : PySem.W.kitOne K (.ref c.InvalidOrder) (.ref c.WrapError) = some true) (M_WrapError : mg "WrapError" = some (.ref c.WrapError)) : FnOk P w K mg base (L2.CX P w) 8 f fd ["_law_lot", "_law_value"] (SpV K 2 (f_heard c)) :=
  okVn F sc_heard (by decide +kernel) fun cdv A outer s H E hr => (pss_vcons (ps_vset (i := 2) sc_heard.nd rfl (Or.inl rfl) pe_vnon)
    (pss_vcons (ps_vtry (mt := mt_InvalidOrder c) (i := 3) TM_InvalidOrder rfl rfl sc_heard.nd rfl rfl ⟨rfl, by decide, Or.inl M_InvalidOrder⟩ (takes_of rfl rfl rfl rfl) (fun W pn xe tk pp => by exact (pss_vone (ps_vset (i := 2) sc_heard.nd rfl (Or.inl rfl) (pe_vstrO S_Stack.g S_Stack.b W_Stack (hr.mono (by decide)) (by rfl) B.str_ (by decide +kernel) (pa_vcons (pe_vcall D_stack_of.g (hr.mono (by decide)) (by rfl) D_stack_of.m D_stack_of.kp D_stack_of.b tk (pa_vcons (pe_vvar 0) (pa_vcons (pe_vvar 1) pa_vnil)) (vcons_len (vcons_len vnil_len))) pa_vnil))))) (fun a oe cls d pn hz hf => by exact (pss_vone1 (ps_xset (j := 2) sc_heard.nd rfl (Or.inl rfl) (pe_xif (PW.pt (pw_xand (pt_xisi EX_InvalidOrder KX_InvalidOrder_WrapError hz hf (by rfl) B.isinstance_ rfl (by exact Or.inl rfl) (pe_glob (v := .ref c.WrapError) (by rfl) M_WrapError rfl)) (pw_xand1 (pt_xnot (pt_xisi EX_InvalidOrder KX_InvalidOrder_InvalidStack hz hf (by rfl) B.isinstance_ rfl (by exact Or.inl rfl) (pe_glob (v := .ref c.InvalidStack) (by rfl) M_InvalidStack rfl)))))) pe_xstr pe_xstr)))))
    (pss_vone (ps_vret (pe_vvar 2)))))
abbrev n_check_argument : List Str := ["word", "is_right"]
theorem sc_check_argument : FnScope n_check_argument ["word", "is_right"] (defScope s_check_argument) := ⟨rfl, rfl, rfl, by decide +kernel, rfl, by decide +kernel, by decide +kernel⟩
def b_check_argument (c : CS) : VS := (vIf (vNot (vTruth (vVar 1))) vNever vNext)
def f_check_argument (c : CS) : VF := vDef 2 (b_check_argument c)
theorem okv_check_argument {f : Addr} {fd : FuncData} (F : Fun K "check_argument" "check_argument" s_check_argument f fd) (B : Bn mg) : FnOk P w K mg base (L2.CX P w) 1 f fd ["word", "is_right"] (SpV K 2 (f_check_argument c)) :=
  okVn F sc_check_argument (by decide +kernel) fun cdv A outer s H E hr => (pss_vone (ps_vif (pt_vnot (pt_vtruth (pe_vvar 1))) (pss_vone ps_vnever) pss_vnil))
abbrev n_is_one_of : List Str := ["value", "numbers"]
theorem sc_is_one_of : FnScope n_is_one_of ["value", "numbers"] (defScope s_is_one_of) := ⟨rfl, rfl, rfl, by decide +kernel, rfl, by decide +kernel, by decide +kernel⟩
def b_is_one_of (c : CS) : VS := (vRet (vAndV (vCall (f_is_integer c) (vCons (vVar 0) vNil)) (vBin (gIn false) (vVar 0) (vVar 1))))
def f_is_one_of (c : CS) : VF := vDef 2 (b_is_one_of c)
theorem okv_is_one_of {f : Addr} {fd : FuncData} (F : Fun K "is_one_of" "is_one_of" s_is_one_of f fd) (B : Bn mg) (D_is_integer : DV P w K mg base "is_integer" 1 1 (f_is_integer c)) : FnOk P w K mg base (L2.CX P w) 2 f fd ["value", "numbers"] (SpV K 2 (f_is_one_of c)) :=
  okVn F sc_is_one_of (by decide +kernel) fun cdv A outer s H E hr => (pss_vone (ps_vret (pe_vandV (pe_vcall D_is_integer.g (hr.mono (by decide)) (by rfl) D_is_integer.m D_is_integer.kp D_is_integer.b (takes_of rfl rfl rfl rfl) (pa_vcons (pe_vvar 0) pa_vnil) (vcons_len vnil_len)) (pe_vone (pe_vin (u65 hr) (by rfl) (pe_vvar 0) (pe_vvar 1))))))
abbrev n_Keep_init : List Str := ["self", "what", "life"]
theorem sc_Keep_init : FnScope n_Keep_init ["self", "what", "life"] (defScope s_Keep_init) := ⟨rfl, rfl, rfl, by decide +kernel, rfl, by decide +kernel, by decide +kernel⟩
def b_Keep_init (c : CS) : VS := (vSeq (vDrop (vCall (f_check_argument c) (vCons (vC (.str "what")) (vCons (vBin (gInFlat false) (vVar 1) (vC (.tup [(.str "good"), (.str "all")]))) vNil))))
    (vSeq (vDrop (vCall (f_check_argument c) (vCons (vC (.str "life")) (vCons (vOrV (vIsN false (vVar 2)) (vCall (f_is_one_of c) (vCons (vVar 2) (vCons (vC (.tup [(.int 0), (.int 1), (.int 2), (.int 3)])) vNil)))) vNil))))
    (vSeq (vSetF (okA c) "what" (vVar 0) (vVar 1))
    (vSetF (okA c) "life" (vVar 0) (vVar 2)))))
def f_Keep_init (c : CS) : VF := vDef 3 (b_Keep_init c)
theorem okv_Keep_init {f : Addr} {fd : FuncData} {dvs : List V} (F : FunD K "__init__" "Keep.__init__" (defArgs s_Keep_init) (defBody s_Keep_init) (defScope s_Keep_init) dvs [] f fd) (B : Bn mg) (D_check_argument : DV P w K mg base "check_argument" 1 2 (f_check_argument c)) (D_is_one_of : DV P w K mg base "is_one_of" 2 2 (f_is_one_of c)) (O_life : FldOk K "life" (okA c)) (O_what : FldOk K "what" (okA c)) (G_LIVES : GV K mg "LIVES" (.tup [(.int 0), (.int 1), (.int 2), (.int 3)])) (G_KEPT_ANSWERS : GV K mg "KEPT_ANSWERS" (.tup [(.str "good"), (.str "all")])) : FnOk P w K mg base (L2.CX P w) 3 f fd ["self", "what", "life"] (SpV K 3 (f_Keep_init c)) :=
  okVD F sc_Keep_init fun cdv A outer s H E hr => (pss_vcons (ps_vexpr (pe_vcall D_check_argument.g (hr.mono (by decide)) (by rfl) D_check_argument.m D_check_argument.kp D_check_argument.b (takes_of rfl rfl rfl rfl) (pa_vcons pe_vstr (pa_vcons (pe_vinF (by rfl) (pe_vvar 1) (pe_vglob (by rfl) G_KEPT_ANSWERS.m G_KEPT_ANSWERS.r G_KEPT_ANSWERS.rp)) pa_vnil)) (vcons_len (vcons_len vnil_len))))
    (pss_vcons (ps_vexpr (pe_vcall D_check_argument.g (hr.mono (by decide)) (by rfl) D_check_argument.m D_check_argument.kp D_check_argument.b (takes_of rfl rfl rfl rfl) (pa_vcons pe_vstr (pa_vcons (pe_vorV (pe_visN (pe_vvar 2)) (pe_vone (pe_vcall D_is_one_of.g (hr.mono (by decide)) (by rfl) D_is_one_of.m D_is_one_of.kp D_is_one_of.b (takes_of rfl rfl rfl rfl) (pa_vcons (pe_vvar 2) (pa_vcons (pe_vglob (by rfl) G_LIVES.m G_LIVES.r G_LIVES.rp) pa_vnil)) (vcons_len (vcons_len vnil_len))))) pa_vnil)) (vcons_len (vcons_len vnil_len))))
    (pss_vcons (ps_vsetF (okA c) O_what (pe_vvar 0) (pe_vvar 1))
    (pss_vone (ps_vsetF (okA c) O_life (pe_vvar 0) (pe_vvar 2))))))
abbrev n_Tries_init : List Str := ["self", "many", "on"]
theorem sc_Tries_init : FnScope n_Tries_init ["self", "many", "on"] (defScope s_Tries_init) := ⟨rfl, rfl, rfl, by decide +kernel, rfl, by decide +kernel, by decide +kernel⟩
def b_Tries_init (c : CS) : VS := (vSeq (vDrop (vCall (f_check_argument c) (vCons (vC (.str "many")) (vCons (vCall (f_is_one_of c) (vCons (vVar 1) (vCons (vC (.tup [(.int 1), (.int 2), (.int 3)])) vNil))) vNil))))
    (vSeq (vDrop (vCall (f_check_argument c) (vCons (vC (.str "on")) (vCons (vBin (gInFlat false) (vVar 2) (vC (.tup [(.str "fault"), (.str "all")]))) vNil))))
    (vSeq (vSetF (okA c) "many" (vVar 0) (vVar 1))
    (vSetF (okA c) "on" (vVar 0) (vVar 2)))))
def f_Tries_init (c : CS) : VF := vDef 3 (b_Tries_init c)
theorem okv_Tries_init {f : Addr} {fd : FuncData} {dvs : List V} (F : FunD K "__init__" "Tries.__init__" (defArgs s_Tries_init) (defBody s_Tries_init) (defScope s_Tries_init) dvs [] f fd) (B : Bn mg) (D_check_argument : DV P w K mg base "check_argument" 1 2 (f_check_argument c)) (D_is_one_of : DV P w K mg base "is_one_of" 2 2 (f_is_one_of c)) (O_on : FldOk K "on" (okA c)) (O_many : FldOk K "many" (okA c)) (G_FAULTS : GV K mg "FAULTS" (.tup [(.str "fault"), (.str "all")])) (G_MOST_ASKED : GV K mg "MOST_ASKED" (.tup [(.int 1), (.int 2), (.int 3)])) : FnOk P w K mg base (L2.CX P w) 3 f fd ["self", "many", "on"] (SpV K 3 (f_Tries_init c)) :=
  okVD F sc_Tries_init fun cdv A outer s H E hr => (pss_vcons (ps_vexpr (pe_vcall D_check_argument.g (hr.mono (by decide)) (by rfl) D_check_argument.m D_check_argument.kp D_check_argument.b (takes_of rfl rfl rfl rfl) (pa_vcons pe_vstr (pa_vcons (pe_vcall D_is_one_of.g (hr.mono (by decide)) (by rfl) D_is_one_of.m D_is_one_of.kp D_is_one_of.b (takes_of rfl rfl rfl rfl) (pa_vcons (pe_vvar 1) (pa_vcons (pe_vglob (by rfl) G_MOST_ASKED.m G_MOST_ASKED.r G_MOST_ASKED.rp) pa_vnil)) (vcons_len (vcons_len vnil_len))) pa_vnil)) (vcons_len (vcons_len vnil_len))))
    (pss_vcons (ps_vexpr (pe_vcall D_check_argument.g (hr.mono (by decide)) (by rfl) D_check_argument.m D_check_argument.kp D_check_argument.b (takes_of rfl rfl rfl rfl) (pa_vcons pe_vstr (pa_vcons (pe_vinF (by rfl) (pe_vvar 2) (pe_vglob (by rfl) G_FAULTS.m G_FAULTS.r G_FAULTS.rp)) pa_vnil)) (vcons_len (vcons_len vnil_len))))
    (pss_vcons (ps_vsetF (okA c) O_many (pe_vvar 0) (pe_vvar 1))
    (pss_vone (ps_vsetF (okA c) O_on (pe_vvar 0) (pe_vvar 2))))))
abbrev n_Limit_init : List Str := ["self", "many"]
theorem sc_Limit_init : FnScope n_Limit_init ["self", "many"] (defScope s_Limit_init) := ⟨rfl, rfl, rfl, by decide +kernel, rfl, by decide +kernel, by decide +kernel⟩
def b_Limit_init (c : CS) : VS := (vSeq (vDrop (vCall (f_check_argument c) (vCons (vC (.str "many")) (vCons (vCall (f_is_one_of c) (vCons (vVar 1) (vCons (vC (.tup [(.int 1), (.int 2), (.int 3), (.int 4), (.int 5), (.int 6)])) vNil))) vNil))))
    (vSetF (okA c) "many" (vVar 0) (vVar 1)))
def f_Limit_init (c : CS) : VF := vDef 2 (b_Limit_init c)
theorem okv_Limit_init {f : Addr} {fd : FuncData} (F : Fun K "__init__" "Limit.__init__" s_Limit_init f fd) (B : Bn mg) (D_check_argument : DV P w K mg base "check_argument" 1 2 (f_check_argument c)) (D_is_one_of : DV P w K mg base "is_one_of" 2 2 (f_is_one_of c)) (O_many : FldOk K "many" (okA c)) (G_MOST_TRIES : GV K mg "MOST_TRIES" (.tup [(.int 1), (.int 2), (.int 3), (.int 4), (.int 5), (.int 6)])) : FnOk P w K mg base (L2.CX P w) 3 f fd ["self", "many"] (SpV K 2 (f_Limit_init c)) :=
  okVn F sc_Limit_init (by decide +kernel) fun cdv A outer s H E hr => (pss_vcons (ps_vexpr (pe_vcall D_check_argument.g (hr.mono (by decide)) (by rfl) D_check_argument.m D_check_argument.kp D_check_argument.b (takes_of rfl rfl rfl rfl) (pa_vcons pe_vstr (pa_vcons (pe_vcall D_is_one_of.g (hr.mono (by decide)) (by rfl) D_is_one_of.m D_is_one_of.kp D_is_one_of.b (takes_of rfl rfl rfl rfl) (pa_vcons (pe_vvar 1) (pa_vcons (pe_vglob (by rfl) G_MOST_TRIES.m G_MOST_TRIES.r G_MOST_TRIES.rp) pa_vnil)) (vcons_len (vcons_len vnil_len))) pa_vnil)) (vcons_len (vcons_len vnil_len))))
    (pss_vone (ps_vsetF (okA c) O_many (pe_vvar 0) (pe_vvar 1))))
abbrev n_Soft_init : List Str := ["self", "on"]
theorem sc_Soft_init : FnScope n_Soft_init ["self", "on"] (defScope s_Soft_init) := ⟨rfl, rfl, rfl, by decide +kernel, rfl, by decide +kernel, by decide +kernel⟩
def b_Soft_init (c : CS) : VS := (vSeq (vDrop (vCall (f_check_argument c) (vCons (vC (.str "on")) (vCons (vBin (gInFlat false) (vVar 1) (vC (.tup [(.str "fault"), (.str "all")]))) vNil))))
    (vSetF (okA c) "on" (vVar 0) (vVar 1)))
def f_Soft_init (c : CS) : VF := vDef 2 (b_Soft_init c)
theorem okv_Soft_init {f : Addr} {fd : FuncData} {dvs : List V} (F : FunD K "__init__" "Soft.__init__" (defArgs s_Soft_init) (defBody s_Soft_init) (defScope s_Soft_init) dvs [] f fd) (B : Bn mg) (D_check_argument : DV P w K mg base "check_argument" 1 2 (f_check_argument c)) (O_on : FldOk K "on" (okA c)) (G_FAULTS : GV K mg "FAULTS" (.tup [(.str "fault"), (.str "all")])) : FnOk P w K mg base (L2.CX P w) 2 f fd ["self", "on"] (SpV K 2 (f_Soft_init c)) :=
  okVD F sc_Soft_init fun cdv A outer s H E hr => (pss_vcons (ps_vexpr (pe_vcall D_check_argument.g (hr.mono (by decide)) (by rfl) D_check_argument.m D_check_argument.kp D_check_argument.b (takes_of rfl rfl rfl rfl) (pa_vcons pe_vstr (pa_vcons (pe_vinF (by rfl) (pe_vvar 1) (pe_vglob (by rfl) G_FAULTS.m G_FAULTS.r G_FAULTS.rp)) pa_vnil)) (vcons_len (vcons_len vnil_len))))
    (pss_vone (ps_vsetF (okA c) O_on (pe_vvar 0) (pe_vvar 1))))
abbrev n_every_row : List Str := ["keeps", "tries", "limits", "softs", "what", "life", "many", "on"]
theorem sc_every_row : FnScope n_every_row [] (defScope s_every_row) := ⟨rfl, rfl, rfl, by decide +kernel, rfl, by decide +kernel, by decide +kernel⟩
def b_every_row (c : CS) : VS := (vSeq (vSet 0 (vVal (vComp2 [4, 5] [5] (vItems (vC (.tup [(.str "good"), (.str "all")]))) (vgName 4) vYes (vItems (vTup (vCons (vC .non) (vStar (vC (.tup [(.int 0), (.int 1), (.int 2), (.int 3)])) vNil)))) (vgName 5) vYes (vCutE (vInsD (vMake c.Keep (f_Keep_init c) (vCons (vVar 4) (vCons (vVar 5) vNil))))))))
    (vSeq (vSet 1 (vVal (vComp2 [6, 7] [7] (vItems (vC (.tup [(.int 1), (.int 2), (.int 3)]))) (vgName 6) vYes (vItems (vC (.tup [(.str "fault"), (.str "all")]))) (vgName 7) vYes (vCutE (vInsD (vMake c.Tries (f_Tries_init c) (vCons (vVar 6) (vCons (vVar 7) vNil))))))))
    (vSeq (vSet 2 (vVal (vComp [6] (vItems (vC (.tup [(.int 1), (.int 2), (.int 3), (.int 4), (.int 5), (.int 6)]))) (vgName 6) vYes (vCutE (vInsD (vMake c.Limit (f_Limit_init c) (vCons (vVar 6) vNil)))))))
    (vSeq (vSet 3 (vVal (vComp [7] (vItems (vC (.tup [(.str "fault"), (.str "all")]))) (vgName 7) vYes (vCutE (vInsD (vMake c.Soft (f_Soft_init c) (vCons (vVar 7) vNil)))))))
    (vRet (vVal (vLst (vStar (vVar 0) (vStar (vVar 1) (vStar (vVar 2) (vStar (vVar 3) (vCons (vCutE (vInsD (vMakeO c.Leave))) (vCons (vCutE (vInsD (vMakeO c.Count))) (vCons (vCutE (vInsD (vMakeO c.Lend))) vNil))))))))))))))
def f_every_row (c : CS) : VF := vDef 8 (b_every_row c)
theorem okv_every_row {f : Addr} {fd : FuncData} (F : Fun K "every_row" "every_row" s_every_row f fd) (B : Bn mg) (MO_Lend : Own.MkO K c.Lend) (M_Lend : mg "Lend" = some (.ref c.Lend)) (MO_Count : Own.MkO K c.Count) (M_Count : mg "Count" = some (.ref c.Count)) (MO_Leave : Own.MkO K c.Leave) (M_Leave : mg "Leave" = some (.ref c.Leave)) (G_FAULTS : GV K mg "FAULTS" (.tup [(.str "fault"), (.str "all")])) (MI_Soft : MI P w K mg base 2 2 "Soft" c.Soft (f_Soft_init c)) (G_MOST_TRIES : GV K mg "MOST_TRIES" (.tup [(.int 1), (.int 2), (.int 3), (.int 4), (.int 5), (.int 6)])) (MI_Limit : MI P w K mg base 3 2 "Limit" c.Limit (f_Limit_init c)) (G_MOST_ASKED : GV K mg "MOST_ASKED" (.tup [(.int 1), (.int 2), (.int 3)])) (MI_Tries : MI P w K mg base 3 3 "Tries" c.Tries (f_Tries_init c)) (G_KEPT_ANSWERS : GV K mg "KEPT_ANSWERS" (.tup [(.str "good"), (.str "all")])) (G_LIVES : GV K mg "LIVES" (.tup [(.int 0), (.int 1), (.int 2), (.int 3)])) (MI_Keep : MI P w K mg base 3 3 "Keep" c.Keep (f_Keep_init c)) : FnOk P w K mg base (L2.CX P w) 5 f fd [] (SpV K 0 (f_every_row c)) :=
  okVn F sc_every_row (by decide +kernel) fun cdv A outer s H E hr => (pss_vcons (ps_vsetLc2 (own := [("what", 4), ("life", 5)]) (vs1 := [5]) (by decide) (by decide) (by decide) rfl sc_every_row.nd (i := 0) rfl rfl (sw_true rfl rfl rfl (by decide +kernel)) (pi_vseq (pe_vglob (by rfl) G_KEPT_ANSWERS.m G_KEPT_ANSWERS.r G_KEPT_ANSWERS.rp)) (blkOk_by (N := n_every_row) (sc := defScope s_every_row) (by decide +kernel)) (fun _ _ _ _ _ => (pg_vname (i := 4) sc_every_row.nd rfl (Or.inl rfl))) (fun _ _ _ _ _ => pts_vnil) (fun _ _ _ _ _ => (pi_vseq (pe_vtup (pa_vcons pe_vnon (pa_vstar (pe_vglob (by rfl) G_LIVES.m G_LIVES.r G_LIVES.rp) pa_vnil))))) (fun _ _ _ _ _ => (pg_vname (i := 5) sc_every_row.nd rfl (Or.inl rfl))) (fun _ _ _ _ _ => pts_vnil) (fun _ _ _ _ _ => (pe_vcut (pe_vinsD (pe_vmake MI_Keep.mks MI_Keep.g (hr.mono (by decide)) (by rfl) MI_Keep.m MI_Keep.b takes0 (pa_vcons (pe_vvar 4) (pa_vcons (pe_vvar 5) pa_vnil)) (by intro s ss m e; rw [(vcons_len (vcons_len vnil_len)) s ss m e]))))))
    (pss_vcons (ps_vsetLc2 (own := [("many", 6), ("on", 7)]) (vs1 := [7]) (by decide) (by decide) (by decide) rfl sc_every_row.nd (i := 1) rfl rfl (sw_true rfl rfl rfl (by decide +kernel)) (pi_vseq (pe_vglob (by rfl) G_MOST_ASKED.m G_MOST_ASKED.r G_MOST_ASKED.rp)) (blkOk_by (N := n_every_row) (sc := defScope s_every_row) (by decide +kernel)) (fun _ _ _ _ _ => (pg_vname (i := 6) sc_every_row.nd rfl (Or.inl rfl))) (fun _ _ _ _ _ => pts_vnil) (fun _ _ _ _ _ => (pi_vseq (pe_vglob (by rfl) G_FAULTS.m G_FAULTS.r G_FAULTS.rp))) (fun _ _ _ _ _ => (pg_vname (i := 7) sc_every_row.nd rfl (Or.inl rfl))) (fun _ _ _ _ _ => pts_vnil) (fun _ _ _ _ _ => (pe_vcut (pe_vinsD (pe_vmake MI_Tries.mks MI_Tries.g (hr.mono (by decide)) (by rfl) MI_Tries.m MI_Tries.b takes0 (pa_vcons (pe_vvar 6) (pa_vcons (pe_vvar 7) pa_vnil)) (by intro s ss m e; rw [(vcons_len (vcons_len vnil_len)) s ss m e]))))))
    (pss_vcons (ps_vsetLc (own := [("many", 6)]) (by decide) rfl sc_every_row.nd (i := 2) rfl rfl (sw_true rfl rfl rfl (by decide +kernel)) (pi_vseq (pe_vglob (by rfl) G_MOST_TRIES.m G_MOST_TRIES.r G_MOST_TRIES.rp)) (blkOk_by (N := n_every_row) (sc := defScope s_every_row) (by decide +kernel)) (fun _ _ _ _ _ => (pg_vname (i := 6) sc_every_row.nd rfl (Or.inl rfl))) (fun _ _ _ _ _ => pts_vnil) (fun _ _ _ _ _ => (pe_vcut (pe_vinsD (pe_vmake MI_Limit.mks MI_Limit.g (hr.mono (by decide)) (by rfl) MI_Limit.m MI_Limit.b takes0 (pa_vcons (pe_vvar 6) pa_vnil) (by intro s ss m e; rw [(vcons_len vnil_len) s ss m e]))))))
    (pss_vcons (ps_vsetLc (own := [("on", 7)]) (by decide) rfl sc_every_row.nd (i := 3) rfl rfl (sw_true rfl rfl rfl (by decide +kernel)) (pi_vseq (pe_vglob (by rfl) G_FAULTS.m G_FAULTS.r G_FAULTS.rp)) (blkOk_by (N := n_every_row) (sc := defScope s_every_row) (by decide +kernel)) (fun _ _ _ _ _ => (pg_vname (i := 7) sc_every_row.nd rfl (Or.inl rfl))) (fun _ _ _ _ _ => pts_vnil) (fun _ _ _ _ _ => (pe_vcut (pe_vinsD (pe_vmake MI_Soft.mks MI_Soft.g (hr.mono (by decide)) (by rfl) MI_Soft.m MI_Soft.b takes0 (pa_vcons (pe_vvar 7) pa_vnil) (by intro s ss m e; rw [(vcons_len vnil_len) s ss m e]))))))
    (pss_vone (ps_vret (pe_vval (pe_vlst (pa_vstar (pe_vvar 0) (pa_vstar (pe_vvar 1) (pa_vstar (pe_vvar 2) (pa_vstar (pe_vvar 3) (pa_vcons (pe_vcut (pe_vinsD (pe_vmakeO MO_Leave (by rfl) M_Leave))) (pa_vcons (pe_vcut (pe_vinsD (pe_vmakeO MO_Count (by rfl) M_Count))) (pa_vcons (pe_vcut (pe_vinsD (pe_vmakeO MO_Lend (by rfl) M_Lend))) pa_vnil)))))))))))))))
abbrev n_Row_read : List Str := ["cls", "text", "row"]
theorem sc_Row_read : FnScope n_Row_read ["cls", "text"] (defScope s_Row_read) := ⟨rfl, rfl, rfl, by decide +kernel, rfl, by decide +kernel, by decide +kernel⟩
def b_Row_read (c : CS) : VS := (vSeq (vPre [2] (vFor (vItems (vCall (f_every_row c) vNil)) (vgName 2) (vBody [2] (vIf (vTest (vBin dEq (vB (gStrO (ok_Row c) (f_Row_str c)) (vCons (vVar 2) vNil)) (vVar 1))) (vRet (vVar 2)) vNext))))
    vNever)
def f_Row_read (c : CS) : VF := vDef 3 (b_Row_read c)
theorem okv_Row_read {f : Addr} {fd : FuncData} (F : Fun K "read" "Row.read" s_Row_read f fd) (B : Bn mg) (D_every_row : DV P w K mg base "every_row" 5 0 (f_every_row c)) (S_Row : DM P w K mg base 2 1 (f_Row_str c)) (W_Row : ∀ C, ok_Row c C = true → ∃ ge, Own.OwnC K C S_Row.a ge) : FnOk P w K mg base (L2.CX P w) 6 f fd ["cls", "text"] (SpV K 2 (f_Row_read c)) :=
  okVn F sc_Row_read (by decide +kernel) fun cdv A outer s H E hr => (pss_vcons (ps_vpre [2] (ps_vfor (passes_of rfl) rfl (pi_vseq (pe_vcall0 D_every_row.g (hr.mono (by decide)) (by rfl) D_every_row.m D_every_row.kp D_every_row.b (takes_of rfl rfl rfl rfl))) (pg_vname (i := 2) sc_Row_read.nd rfl (Or.inl rfl)) (pss_vbody [2] (pss_vone (ps_vif (pt_veq hr.units (pe_vstrO S_Row.g S_Row.b W_Row (hr.mono (by decide)) (by rfl) B.str_ (by decide +kernel) (pa_vcons (pe_vvar 2) pa_vnil)) (pe_vvar 1)) (pss_vone (ps_vret (pe_vvar 2))) pss_vnil)))))
    (pss_vone ps_vnever))
abbrev n_row_text : List Str := ["_law_row_here", "_law_words", "_law_part"]
theorem sc_row_text : FnScope n_row_text ["_law_row_here"] (defScope s_law_row_text) := ⟨rfl, rfl, rfl, by decide +kernel, rfl, by decide +kernel, by decide +kernel⟩
def b_row_text (c : CS) : VS := (vSeq (vSet 1 (vVal (vComp [2] (vItems (vVar 0)) (vgName 2) vYes (vB gStrF (vCons (vVar 2) vNil)))))
    (vRet (vIfE (vTest (vIsN false (vBin gIx (vVar 0) (vC (.int (-1)))))) (vM1 gJoin (vC (.str " ")) (vVal (vBinN gCat (vVal (vSliceL (vVar 1) vNoPart (vPart (vC (.int (-1)))))) (vVal (vLst (vCons (vC (.str "ever")) vNil)))))) (vM1 gJoin (vC (.str " ")) (vVar 1)))))
def f_row_text (c : CS) : VF := vDef 3 (b_row_text c)
theorem okv_row_text {f : Addr} {fd : FuncData} (F : Fun K "_law_row_text" "_law_row_text" s_law_row_text f fd) (B : Bn mg) : FnOk P w K mg base (L2.CX P w) 1 f fd ["_law_row_here"] (SpV K 1 (f_row_text c)) :=
  okVn F sc_row_text (by decide +kernel) fun cdv A outer s H E hr => (pss_vcons (ps_vsetLc (own := [("_law_part", 2)]) (by decide) rfl sc_row_text.nd (i := 1) rfl rfl (sw_true rfl rfl rfl (by decide +kernel)) (pi_vseq (pe_vvar 0)) (blkOk_by (N := n_row_text) (sc := defScope s_law_row_text) (by decide +kernel)) (fun _ _ _ _ _ => (pg_vname (i := 2) sc_row_text.nd rfl (Or.inl rfl))) (fun _ _ _ _ _ => pts_vnil) (fun _ _ _ _ _ => (pe_vcallTy cv_strF call_strF (by rfl) B.str_ (by decide +kernel) (pa_vcons (pe_vvar 2) pa_vnil))))
    (pss_vone (ps_vret (pe_vifE (pt_visN (pe_vix (fun _ _ => rfl) (pe_vvar 0) pe_vneg)) (pe_vjoin pe_vstr (pe_vval (pe_vcat (pe_vval (pe_vsliceL (pe_vvar 1) po_vnone (po_vsome pe_vneg))) (pe_vval (pe_vlst (pa_vcons pe_vstr pa_vnil)))))) (pe_vjoin pe_vstr (pe_vvar 1))))))
abbrev n_made_rows : List Str := ["_law_rows_here", "_law_row_here"]
theorem sc_made_rows : FnScope n_made_rows ["_law_rows_here"] (defScope s_law_made_rows) := ⟨rfl, rfl, rfl, by decide +kernel, rfl, by decide +kernel, by decide +kernel⟩
def b_made_rows (c : CS) : VS := (vRet (vVal (vComp [1] (vItems (vVar 0)) (vgName 1) vYes (vCMeth c.Row (f_Row_read c) (vCons (vCall (f_row_text c) (vCons (vVar 1) vNil)) vNil)))))
def f_made_rows (c : CS) : VF := vDef 2 (b_made_rows c)
theorem okv_made_rows {f : Addr} {fd : FuncData} (F : Fun K "_law_made_rows" "_law_made_rows" s_law_made_rows f fd) (B : Bn mg) (D_row_text : DV P w K mg base "_law_row_text" 1 1 (f_row_text c)) (C_Row_read : CM P w K mg base 6 2 "read" c.Row (f_Row_read c)) (M_Row : mg "Row" = some (.ref c.Row)) : FnOk P w K mg base (L2.CX P w) 7 f fd ["_law_rows_here"] (SpV K 1 (f_made_rows c)) :=
  okVn F sc_made_rows (by decide +kernel) fun cdv A outer s H E hr => (pss_vone (ps_vret (pe_vval (pe_vcomp (own := [("_law_row_here", 1)]) (by decide) rfl sc_made_rows.nd (pi_vseq (pe_vvar 0)) (blkOk_by (N := n_made_rows) (sc := defScope s_law_made_rows) (by decide +kernel)) (fun _ _ _ _ _ => (pg_vname (i := 1) sc_made_rows.nd rfl (Or.inl rfl))) (fun _ _ _ _ _ => pts_vnil) (fun _ _ _ _ _ => (pe_vcmeth C_Row_read (pe_glob (v := .ref c.Row) (by rfl) M_Row rfl) (hr.mono (by decide)) takes0 (pa_vcons (pe_vcall D_row_text.g (hr.mono (by decide)) (by rfl) D_row_text.m D_row_text.kp D_row_text.b takes0 (pa_vcons (pe_vvar 1) pa_vnil) (vcons_len vnil_len)) pa_vnil) (by intro s ss m e; rw [(vcons_len vnil_len) s ss m e])))))))
abbrev n_rows_in : List Str := ["lines", "rows", "at", "line"]
theorem sc_rows_in : FnScope n_rows_in ["lines"] (defScope s_rows_in) := ⟨rfl, rfl, rfl, by decide +kernel, rfl, by decide +kernel, by decide +kernel⟩
def b_rows_in (c : CS) : VS := (vSeq (vSet 1 (vOwn (vLst vNil)))
    (vSeq (vPre [2, 3] (vFor (vEnum (vCons (vVar 0) vNil)) (vgTup [(vgName 2), (vgName 3)]) (vBody [2, 3] (vNoEx (vDrop (vMet gAppend (vVar 1) (vCons (vCMeth c.Row (f_Row_read c) (vCons (vVar 3) vNil)) vNil)))))))
    (vFrz 1 (vRet (vVar 1)))))
def f_rows_in (c : CS) : VF := vDef 4 (b_rows_in c)
theorem okv_rows_in {f : Addr} {fd : FuncData} (F : Fun K "rows_in" "rows_in" s_rows_in f fd) (B : Bn mg) (C_Row_read : CM P w K mg base 6 2 "read" c.Row (f_Row_read c)) (M_Row : mg "Row" = some (.ref c.Row)) : FnOk P w K mg base (L2.CX P w) 7 f fd ["lines"] (SpV K 1 (f_rows_in c)) :=
  okVn F sc_rows_in (by decide +kernel) fun cdv A outer s H E hr => (pss_vcons (ps_vset (i := 1) sc_rows_in.nd rfl (Or.inl rfl) (pe_vown (pe_vlst pa_vnil)))
    (pss_vcons (ps_vpre [2, 3] (ps_vfor (passes_of rfl) rfl (pi_venum (by rfl) B.enumerate_ (pa_vcons (pe_vvar 0) pa_vnil)) (pg_vtup rfl (pgs_vcons (pg_vname (i := 2) sc_rows_in.nd rfl (Or.inl rfl)) (pgs_vcons (pg_vname (i := 3) sc_rows_in.nd rfl (Or.inl rfl)) pgs_vnil))) (pss_vbody [2, 3] (pss_vone (ps_vthru (by exact (pss_vone (ps_vexpr (pe_vappend (pe_vvar 1) (pa_vcons (pe_vcmeth C_Row_read (pe_glob (v := .ref c.Row) (by rfl) M_Row rfl) (hr.mono (by decide)) takes0 (pa_vcons (pe_vvar 3) pa_vnil) (by intro s ss m e; rw [(vcons_len vnil_len) s ss m e])) pa_vnil))))))))))
    (pss_vone (ps_frz 1 (ps_vret (pe_vvar 1))))))
abbrev n_Stack_read : List Str := ["cls", "text"]
theorem sc_Stack_read : FnScope n_Stack_read ["cls", "text"] (defScope s_Stack_read) := ⟨rfl, rfl, rfl, by decide +kernel, rfl, by decide +kernel, by decide +kernel⟩
def b_Stack_read (c : CS) : VS := (vSeq (vIf (vTest (vBin dEq (vVar 1) (vC (.str "")))) (vRet (vCutE (vInsD (vAtC 0 c.Stack (vMakeD c.Stack (f_Stack_init c) [(.tup [])] vNil))))) vNext)
    (vRet (vCutE (vInsD (vAtC 0 c.Stack (vMakeD c.Stack (f_Stack_init c) [] (vCons (vCall (f_rows_in c) (vCons (vVal (vSplit (vVar 1) (vC (.str "\n")))) vNil)) vNil)))))))
def f_Stack_read (c : CS) : VF := vDef 2 (b_Stack_read c)
theorem okv_Stack_read {f : Addr} {fd : FuncData} (F : Fun K "read" "Stack.read" s_Stack_read f fd) (B : Bn mg) (D_rows_in : DV P w K mg base "rows_in" 7 1 (f_rows_in c)) (MD_Stack_0 : MD P w K mg base 3 2 c.Stack (f_Stack_init c) []) (MD_Stack_1 : MD P w K mg base 3 2 c.Stack (f_Stack_init c) [(.tup [])]) : FnOk P w K mg base (L2.CX P w) 8 f fd ["cls", "text"] (SpV K 2 (f_Stack_read c)) :=
  okVn F sc_Stack_read (by decide +kernel) fun cdv A outer s H E hr => (pss_vcons (ps_vif (pt_veq hr.units (pe_vvar 1) pe_vstr) (pss_vone (ps_vret (pe_vcut (pe_vinsD (pe_vmakeL0 (i := 0) MD_Stack_1 (hr.mono (by decide)) rfl (by first | exact Or.inl rfl | exact Or.inr (Or.inl rfl)) (takes_of rfl rfl rfl rfl) rfl))))) pss_vnil)
    (pss_vone (ps_vret (pe_vcut (pe_vinsD (pe_vmakeL (i := 0) MD_Stack_0 (hr.mono (by decide)) rfl (by first | exact Or.inl rfl | exact Or.inr (Or.inl rfl)) (takes_of rfl rfl rfl rfl) (pa_vcons (pe_vcall D_rows_in.g (hr.mono (by decide)) (by rfl) D_rows_in.m D_rows_in.kp D_rows_in.b (takes_of rfl rfl rfl rfl) (pa_vcons (pe_vval (pe_vsplit (pe_vvar 1) pe_vstr)) pa_vnil) (vcons_len vnil_len)) pa_vnil) (by intro s ss m e; rw [(vcons_len vnil_len) s ss m e]; rfl)))))))
abbrev n_text : List Str := ["_law_rows_here", "_law_row_here"]
theorem sc_text : FnScope n_text ["_law_rows_here"] (defScope s_law_text) := ⟨rfl, rfl, rfl, by decide +kernel, rfl, by decide +kernel, by decide +kernel⟩
def b_text (c : CS) : VS := (vRet (vM1 gJoin (vC (.str "\n")) (vVal (vComp [1] (vItems (vVar 0)) (vgName 1) vYes (vCall (f_row_text c) (vCons (vVar 1) vNil))))))
def f_text (c : CS) : VF := vDef 2 (b_text c)
theorem okv_text {f : Addr} {fd : FuncData} (F : Fun K "_law_text" "_law_text" s_law_text f fd) (B : Bn mg) (D_row_text : DV P w K mg base "_law_row_text" 1 1 (f_row_text c)) : FnOk P w K mg base (L2.CX P w) 2 f fd ["_law_rows_here"] (SpV K 1 (f_text c)) :=
  okVn F sc_text (by decide +kernel) fun cdv A outer s H E hr => (pss_vone (ps_vret (pe_vjoin pe_vstr (pe_vval (pe_vcomp (own := [("_law_row_here", 1)]) (by decide) rfl sc_text.nd (pi_vseq (pe_vvar 0)) (blkOk_by (N := n_text) (sc := defScope s_law_text) (by decide +kernel)) (fun _ _ _ _ _ => (pg_vname (i := 1) sc_text.nd rfl (Or.inl rfl))) (fun _ _ _ _ _ => pts_vnil) (fun _ _ _ _ _ => (pe_vcall D_row_text.g (hr.mono (by decide)) (by rfl) D_row_text.m D_row_text.kp D_row_text.b takes0 (pa_vcons (pe_vvar 1) pa_vnil) (vcons_len vnil_len))))))))
abbrev n_Stack_eq : List Str := ["self", "other"]
theorem sc_Stack_eq : FnScope n_Stack_eq ["self", "other"] (defScope s_Stack_eq) := ⟨rfl, rfl, rfl, by decide +kernel, rfl, by decide +kernel, by decide +kernel⟩
def b_Stack_eq (c : CS) : VS := (vRet (vAndV (vIsi (tyTab (fun _ => false) (ct_Stack c)) (vVar 1)) (vBin dEq (vB (gStrO (ok_Stack c) (f_Stack_str c)) (vCons (vVar 0) vNil)) (vB (gStrO (ok_Stack c) (f_Stack_str c)) (vCons (vVar 1) vNil)))))
def f_Stack_eq (c : CS) : VF := vDef 2 (b_Stack_eq c)
theorem okv_Stack_eq {f : Addr} {fd : FuncData} (F : Fun K "__eq__" "Stack.__eq__" s_Stack_eq f fd) (B : Bn mg) (S_Stack : DM P w K mg base 5 1 (f_Stack_str c)) (W_Stack : ∀ C, ok_Stack c C = true → ∃ ge, Own.OwnC K C S_Stack.a ge) (I_Stack : IsT K [.ref c.Stack] (tyTab (fun _ => false) (ct_Stack c))) (M_Stack : mg "Stack" = some (.ref c.Stack)) : FnOk P w K mg base (L2.CX P w) 8 f fd ["self", "other"] (SpV K 2 (f_Stack_eq c)) :=
  okVn F sc_Stack_eq (by decide +kernel) fun cdv A outer s H E hr => (pss_vone (ps_vret (pe_vandV (pe_visi (tyTab (fun _ => false) (ct_Stack c)) I_Stack (by rfl) B.isinstance_ (pe_vvar 1) (pe_glob (v := .ref c.Stack) (by rfl) M_Stack rfl) (.own _)) (pe_vone (pe_veq hr.units (pe_vstrO S_Stack.g S_Stack.b W_Stack (hr.mono (by decide)) (by rfl) B.str_ (by decide +kernel) (pa_vcons (pe_vvar 0) pa_vnil)) (pe_vstrO S_Stack.g S_Stack.b W_Stack (hr.mono (by decide)) (by rfl) B.str_ (by decide +kernel) (pa_vcons (pe_vvar 1) pa_vnil)))))))
abbrev n_law : List Str := ["_law_script", "_law_base", "_law_deal", "_law_turn", "_law_told", "_law_order", "_law_at", "_law_odd", "_law_deep", "_law_turn_in", "_law_value", "_law_lot", "_law_size", "_law_due", "_law_number"]
theorem sc_law : FnScope n_law ["_law_script"] (defScope s_law) := ⟨rfl, rfl, rfl, by decide +kernel, rfl, by decide +kernel, by decide +kernel⟩
def b_law (c : CS) : VS := (vSeq (vPre [1, 2, 3, 4, 6, 7, 8, 9, 10, 11, 12, 13] (vFor (vRange (vB (gMM fun i j => if j > i then j else i) (vCons (vC (.int 1)) (vCons (vB (gMM fun i j => if j < i then j else i) (vCons (vC (.int 3)) (vCons (vB gLen (vCons (vVar 0) vNil)) vNil))) vNil)))) (vgName 1) (vBody [1, 2, 3, 4, 6, 7, 8, 9, 10, 11, 12, 13] (vSeq (vSet 2 (vCall (f_source c) (vCons (vVar 0) (vCons (vVar 1) vNil))))
    (vPre [3, 4, 6, 7, 8, 9, 10, 11, 12, 13] (vFor (vRange (vC (.int 4))) (vgName 3) (vBody [3, 4, 6, 7, 8, 9, 10, 11, 12, 13] (vSeq (vSet 4 (vCall (f_lot_rows c) (vCons (vVar 2) (vCons (vBin gAdd (vC (.int 1)) (vCall (f_draw c) (vCons (vVar 2) (vCons (vC (.int 4)) vNil)))) vNil))))
    (vSeq (vPar 11 12 (vCons (vCall (f_made_rows c) (vCons (vVar 4) vNil)) (vCons (vB gLen (vCons (vVar 4) vNil)) vNil)))
    (vSeq (vPre [13] (vFor (vItems (vCall (f_orders c) (vCons (vVar 12) vNil))) (vgName 5) (vBody [13] (vSeq (vSet 13 (vCMeth c.Stack (f_Stack_read c) (vCons (vCall (f_text c) (vCons (vVal (vComp [6] (vItems (vVar 5)) (vgName 6) vYes (vBin gIx (vVar 4) (vVar 6)))) vNil)) vNil)))
    (vIf (vOr (vTest (vBin (gEqO (okq_Stack c) (f_Stack_eq c) not) (vCall (f_stack_of c) (vCons (vVar 11) (vCons (vVar 5) vNil))) (vVar 13))) (vTest (vBin (gEqO (okq_Stack c) (f_Stack_eq c) not) (vCall (f_stack_of c) (vCons (vB gTupOf (vCons (vVar 11) vNil)) (vCons (vVar 5) vNil))) (vVar 13)))) (vRet (vC (.bl false))) vNext)))))
    (vSeq (vSet 5 (vB gTupOf (vCons (vCall (f_mixed c) (vCons (vVar 2) (vCons (vVal (vListRg (vVar 12))) vNil))) vNil)))
    (vSeq (vSet 6 (vCall (f_draw c) (vCons (vVar 2) (vCons (vVar 12) vNil))))
    (vSeq (vSet 7 (vVal (vLst (vCons (vVal (vBN gListOf (vCons (vVar 5) vNil))) (vCons (vSliceV (vVar 5) (vPart (vC (.int 1))) vNoPart) (vCons (vBin gAdd (vVar 5) (vTup (vCons (vVar 12) vNil))) (vCons (vBin gAdd (vBin gAdd (vSliceV (vVar 5) vNoPart (vPart (vVar 6))) (vTup (vCons (vVar 12) vNil))) (vSliceV (vVar 5) (vPart (vBin gAdd (vVar 6) (vC (.int 1)))) vNoPart)) (vCons (vC .non) (vCons (vC (.str "0")) (vCons (vTup vNil) vNil))))))))))
    (vSeq (vSet 7 (vVal (vBinN gCat (vVar 7) (vVal (vLst (vCons (vBin gAdd (vBin gAdd (vSliceV (vVar 5) vNoPart (vPart (vVar 6))) (vTup (vCons (vBin dSub (vC (.int 0)) (vC (.int 1))) vNil))) (vSliceV (vVar 5) (vPart (vBin gAdd (vVar 6) (vC (.int 1)))) vNoPart)) (vCons (vBin gAdd (vBin gAdd (vSliceV (vVar 5) vNoPart (vPart (vVar 6))) (vTup (vCons (vC .non) vNil))) (vSliceV (vVar 5) (vPart (vBin gAdd (vVar 6) (vC (.int 1)))) vNoPart)) (vCons (vTup (vCons (vVar 5) vNil)) vNil))))))))
    (vSeq (vSet 7 (vVal (vBinN gCat (vVar 7) (vVal (vLst (vCons (vBin gAdd (vBin gAdd (vSliceV (vVar 5) vNoPart (vPart (vVar 6))) (vTup (vCons (vB gStrF (vCons (vBin gIx (vVar 5) (vVar 6)) vNil)) vNil))) (vSliceV (vVar 5) (vPart (vBin gAdd (vVar 6) (vC (.int 1)))) vNoPart)) (vCons (vBin gAdd (vVar 5) (vSliceV (vVar 5) vNoPart (vPart (vC (.int 1))))) (vCons (vC (.bl true)) (vCons (vC (.int 0)) vNil)))))))))
    (vSeq (vSet 7 (vVal (vBinN gCat (vVar 7) (vVal (vLst (vCons (vB gTupOf (vCons (vVal (vComp [14] (vItems (vVar 5)) (vgName 14) vYes (vBin dEq (vVar 14) (vC (.int 1))))) vNil)) (vCons (vBin gAdd (vBin gAdd (vSliceV (vVar 5) vNoPart (vPart (vVar 6))) (vTup (vCons (vTup (vCons (vBin gIx (vVar 5) (vVar 6)) vNil)) vNil))) (vSliceV (vVar 5) (vPart (vBin gAdd (vVar 6) (vC (.int 1)))) vNoPart)) vNil)))))))
    (vSeq (vSet 8 (vCall (f_pick c) (vCons (vVar 2) (vCons (vVal (vLst (vCons (vC (.int 0)) (vCons (vC .non) (vCons (vC (.str "0")) (vCons (vBin gIx (vVar 5) (vC (.int 0))) vNil)))))) vNil))))
    (vSeq (vPre [9] (vFor (vRange (vC (.int 8))) (vgName 9) (vBody [9] (vSet 8 (vIfE (vTest (vBin dGt (vCall (f_draw c) (vCons (vVar 2) (vCons (vC (.int 3)) vNil))) (vC (.int 0)))) (vTup (vCons (vVar 8) vNil)) (vVal (vLst (vCons (vVar 8) vNil))))))))
    (vSeq (vPre [10] (vFor (vItems (vVal (vBinN gCat (vVar 7) (vVal (vLst (vCons (vVar 8) vNil)))))) (vgName 10) (vBody [10] (vIf (vTest (vBin dNe (vCall (f_heard c) (vCons (vVar 11) (vCons (vVar 10) vNil))) (vC (.str "order")))) (vRet (vC (.bl false))) vNext))))
    (vIf (vTest (vBin dNe (vCall (f_heard c) (vCons (vVar 11) (vCons (vVar 5) vNil))) (vCall (f_text c) (vCons (vVal (vComp [6] (vItems (vVar 5)) (vgName 6) vYes (vBin gIx (vVar 4) (vVar 6)))) vNil)))) (vRet (vC (.bl false))) vNext))))))))))))))))))))
    (vRet (vAndV (vBin dEq (vB (gStrO (ok_Stack c) (f_Stack_str c)) (vCons (vCall (f_stack_of c) (vCons (vVal (vLst vNil)) (vCons (vTup vNil) vNil))) vNil)) (vC (.str ""))) (vBin dEq (vCall (f_heard c) (vCons (vVal (vLst vNil)) (vCons (vTup (vCons (vC (.int 0)) vNil)) vNil))) (vC (.str "order"))))))
def f_law (c : CS) : VF := vDef 15 (b_law c)
theorem okv_law {f : Addr} {fd : FuncData} (F : Fun K "law" "law" s_law f fd) (B : Bn mg) (D_heard : DV P w K mg base "_law_heard" 8 2 (f_heard c)) (D_stack_of : DV P w K mg base "stack_of" 5 2 (f_stack_of c)) (D_text : DV P w K mg base "_law_text" 2 1 (f_text c)) (D_draw : DV P w K mg base "_law_draw" 1 2 (f_draw c)) (D_pick : DV P w K mg base "_law_pick" 2 2 (f_pick c)) (D_mixed : DV P w K mg base "_law_mixed" 2 2 (f_mixed c)) (D_orders : DV P w K mg base "_law_orders" 1 1 (f_orders c)) (D_made_rows : DV P w K mg base "_law_made_rows" 7 1 (f_made_rows c)) (D_lot_rows : DV P w K mg base "_law_lot_rows" 5 2 (f_lot_rows c)) (D_source : DV P w K mg base "_law_source" 1 2 (f_source c)) (S_Stack : DM P w K mg base 5 1 (f_Stack_str c)) (W_Stack : ∀ C, ok_Stack c C = true → ∃ ge, Own.OwnC K C S_Stack.a ge) (Q_Stack : DM P w K mg base 8 2 (f_Stack_eq c)) (WQ_Stack : EqOk K Q_Stack.a (okq_Stack c)) (C_Stack_read : CM P w K mg base 8 2 "read" c.Stack (f_Stack_read c)) (M_Stack : mg "Stack" = some (.ref c.Stack)) : FnOk P w K mg base (L2.CX P w) 10 f fd ["_law_script"] (SpV K 1 (f_law c)) :=
  okVn F sc_law (by decide +kernel) fun cdv A outer s H E hr => (pss_vcons (ps_vpre [1, 2, 3, 4, 6, 7, 8, 9, 10, 11, 12, 13] (ps_vfor (passes_of rfl) rfl (pi_vrange (by rfl) B.range_ (pe_vcallB (cv_mm) (call_max2' rfl) (by rfl) B.max_ (by decide +kernel) (pa_vcons pe_vint (pa_vcons (pe_vcallB (cv_mm) (call_min2' rfl) (by rfl) B.min_ (by decide +kernel) (pa_vcons pe_vint (pa_vcons (pe_vcallB cv_len call_len1 (by rfl) B.len_ (by decide +kernel) (pa_vcons (pe_vvar 0) pa_vnil)) pa_vnil))) pa_vnil)))) (pg_vname (i := 1) sc_law.nd rfl (Or.inl rfl)) (pss_vbody [1, 2, 3, 4, 6, 7, 8, 9, 10, 11, 12, 13] (pss_vcons (ps_vset (i := 2) sc_law.nd rfl (Or.inl rfl) (pe_vcall D_source.g (hr.mono (by decide)) (by rfl) D_source.m D_source.kp D_source.b (takes_of rfl rfl rfl rfl) (pa_vcons (pe_vvar 0) (pa_vcons (pe_vvar 1) pa_vnil)) (vcons_len (vcons_len vnil_len))))
    (pss_vone (ps_vpre [3, 4, 6, 7, 8, 9, 10, 11, 12, 13] (ps_vfor (passes_of rfl) rfl (pi_vrange (by rfl) B.range_ pe_vint) (pg_vname (i := 3) sc_law.nd rfl (Or.inl rfl)) (pss_vbody [3, 4, 6, 7, 8, 9, 10, 11, 12, 13] (pss_vcons (ps_vset (i := 4) sc_law.nd rfl (by first | exact Or.inr rfl | exact Or.inl rfl) (pe_vcall D_lot_rows.g (hr.mono (by decide)) (by rfl) D_lot_rows.m D_lot_rows.kp D_lot_rows.b (takes_of rfl rfl rfl rfl) (pa_vcons (pe_vvar 2) (pa_vcons (pe_vadd pe_vint (pe_vcall D_draw.g (hr.mono (by decide)) (by rfl) D_draw.m D_draw.kp D_draw.b (takes_of rfl rfl rfl rfl) (pa_vcons (pe_vvar 2) (pa_vcons pe_vint pa_vnil)) (vcons_len (vcons_len vnil_len)))) pa_vnil)) (vcons_len (vcons_len vnil_len))))
    (pss_vcons (ps_vpar (i := 11) (j := 12) rfl sc_law.nd rfl rfl (by decide) rfl rfl (pa_vcons (pe_vcall D_made_rows.g (hr.mono (by decide)) (by rfl) D_made_rows.m D_made_rows.kp D_made_rows.b (takes_of rfl rfl rfl rfl) (pa_vcons (pe_vvar 4) pa_vnil) (vcons_len vnil_len)) (pa_vcons (pe_vcallB cv_len call_len1 (by rfl) B.len_ (by decide +kernel) (pa_vcons (pe_vvar 4) pa_vnil)) pa_vnil)) (by rfl))
    (pss_vcons (ps_vpre [13] (ps_vfor (passes_of rfl) rfl (pi_vseq (pe_vcall D_orders.g (hr.mono (by decide)) (by rfl) D_orders.m D_orders.kp D_orders.b (takes_of rfl rfl rfl rfl) (pa_vcons (pe_vvar 12) pa_vnil) (vcons_len vnil_len))) (pg_vname (i := 5) sc_law.nd rfl (Or.inl rfl)) (pss_vbody [13] (pss_vcons (ps_vset (i := 13) sc_law.nd rfl (Or.inl rfl) (pe_vcmeth C_Stack_read (pe_glob (v := .ref c.Stack) (by rfl) M_Stack rfl) (hr.mono (by decide)) (takes_of rfl rfl rfl rfl) (pa_vcons (pe_vcall D_text.g (hr.mono (by decide)) (by rfl) D_text.m D_text.kp D_text.b (takes_of rfl rfl rfl rfl) (pa_vcons (pe_vval (pe_vcomp (own := [("_law_at", 6)]) (by decide) rfl sc_law.nd (pi_vseq (pe_vvar 5)) (blkOk_by (N := n_law) (sc := defScope s_law) (by decide +kernel)) (fun _ _ _ _ _ => (pg_vname (i := 6) sc_law.nd rfl (Or.inl rfl))) (fun _ _ _ _ _ => pts_vnil) (fun _ _ _ _ _ => (pe_vix (fun _ _ => rfl) (pe_vvar 4) (pe_vvar 6))))) pa_vnil) (vcons_len vnil_len)) pa_vnil) (by intro s ss m e; rw [(vcons_len vnil_len) s ss m e])))
    (pss_vone (ps_vif (PW.pt (pw_vor (pt_vneO Q_Stack.g Q_Stack.b WQ_Stack (hr.mono (by decide)) (pe_vcall D_stack_of.g (hr.mono (by decide)) (by rfl) D_stack_of.m D_stack_of.kp D_stack_of.b (takes_of rfl rfl rfl rfl) (pa_vcons (pe_vvar 11) (pa_vcons (pe_vvar 5) pa_vnil)) (vcons_len (vcons_len vnil_len))) (pe_vvar 13)) (pw_vor1 (pt_vneO Q_Stack.g Q_Stack.b WQ_Stack (hr.mono (by decide)) (pe_vcall D_stack_of.g (hr.mono (by decide)) (by rfl) D_stack_of.m D_stack_of.kp D_stack_of.b (takes_of rfl rfl rfl rfl) (pa_vcons (pe_vcallTy cv_tup call_tuple_ofB (by rfl) B.tuple_ (by decide +kernel) (pa_vcons (pe_vvar 11) pa_vnil)) (pa_vcons (pe_vvar 5) pa_vnil)) (vcons_len (vcons_len vnil_len))) (pe_vvar 13))))) (pss_vone (ps_vret pe_vbl)) pss_vnil))))))
    (pss_vcons (ps_vset (i := 5) sc_law.nd rfl (Or.inl rfl) (pe_vcallTy cv_tup call_tuple_ofB (by rfl) B.tuple_ (by decide +kernel) (pa_vcons (pe_vcall D_mixed.g (hr.mono (by decide)) (by rfl) D_mixed.m D_mixed.kp D_mixed.b (takes_of rfl rfl rfl rfl) (pa_vcons (pe_vvar 2) (pa_vcons (pe_vval (pe_vlistRg rfl (by rfl) B.list_ (by rfl) B.range_ (pe_vvar 12))) pa_vnil)) (vcons_len (vcons_len vnil_len))) pa_vnil)))
    (pss_vcons (ps_vset (i := 6) sc_law.nd rfl (Or.inl rfl) (pe_vcall D_draw.g (hr.mono (by decide)) (by rfl) D_draw.m D_draw.kp D_draw.b (takes_of rfl rfl rfl rfl) (pa_vcons (pe_vvar 2) (pa_vcons (pe_vvar 12) pa_vnil)) (vcons_len (vcons_len vnil_len))))
    (pss_vcons (ps_vset (i := 7) sc_law.nd rfl (Or.inl rfl) (pe_vval (pe_vlst (pa_vcons (pe_vval (pe_vcallTyN cv_list call_list_of (by rfl) B.list_ (by decide +kernel) (pa_vcons (pe_vvar 5) pa_vnil))) (pa_vcons (pe_vsliceV (pe_vvar 5) (po_vsome pe_vint) po_vnone) (pa_vcons (pe_vadd (pe_vvar 5) (pe_vtup (pa_vcons (pe_vvar 12) pa_vnil))) (pa_vcons (pe_vadd (pe_vadd (pe_vsliceV (pe_vvar 5) po_vnone (po_vsome (pe_vvar 6))) (pe_vtup (pa_vcons (pe_vvar 12) pa_vnil))) (pe_vsliceV (pe_vvar 5) (po_vsome (pe_vadd (pe_vvar 6) pe_vint)) po_vnone)) (pa_vcons pe_vnon (pa_vcons pe_vstr (pa_vcons (pe_vtup pa_vnil) pa_vnil))))))))))
    (pss_vcons (ps_vset (i := 7) sc_law.nd rfl (Or.inl rfl) (pe_vval (pe_vcat (pe_vvar 7) (pe_vval (pe_vlst (pa_vcons (pe_vadd (pe_vadd (pe_vsliceV (pe_vvar 5) po_vnone (po_vsome (pe_vvar 6))) (pe_vtup (pa_vcons (pe_vsub pe_vint pe_vint) pa_vnil))) (pe_vsliceV (pe_vvar 5) (po_vsome (pe_vadd (pe_vvar 6) pe_vint)) po_vnone)) (pa_vcons (pe_vadd (pe_vadd (pe_vsliceV (pe_vvar 5) po_vnone (po_vsome (pe_vvar 6))) (pe_vtup (pa_vcons pe_vnon pa_vnil))) (pe_vsliceV (pe_vvar 5) (po_vsome (pe_vadd (pe_vvar 6) pe_vint)) po_vnone)) (pa_vcons (pe_vtup (pa_vcons (pe_vvar 5) pa_vnil)) pa_vnil))))))))
    (pss_vcons (ps_vset (i := 7) sc_law.nd rfl (Or.inl rfl) (pe_vval (pe_vcat (pe_vvar 7) (pe_vval (pe_vlst (pa_vcons (pe_vadd (pe_vadd (pe_vsliceV (pe_vvar 5) po_vnone (po_vsome (pe_vvar 6))) (pe_vtup (pa_vcons (pe_vcallTy cv_strF call_strF (by rfl) B.str_ (by decide +kernel) (pa_vcons (pe_vix (fun _ _ => rfl) (pe_vvar 5) (pe_vvar 6)) pa_vnil)) pa_vnil))) (pe_vsliceV (pe_vvar 5) (po_vsome (pe_vadd (pe_vvar 6) pe_vint)) po_vnone)) (pa_vcons (pe_vadd (pe_vvar 5) (pe_vsliceV (pe_vvar 5) po_vnone (po_vsome pe_vint))) (pa_vcons pe_vbl (pa_vcons pe_vint pa_vnil)))))))))
    (pss_vcons (ps_vset (i := 7) sc_law.nd rfl (Or.inl rfl) (pe_vval (pe_vcat (pe_vvar 7) (pe_vval (pe_vlst (pa_vcons (pe_vcallTy cv_tup call_tuple_ofB (by rfl) B.tuple_ (by decide +kernel) (pa_vcons (pe_vval (pe_vcomp (own := [("_law_number", 14)]) (by decide) rfl sc_law.nd (pi_vseq (pe_vvar 5)) (blkOk_by (N := n_law) (sc := defScope s_law) (by decide +kernel)) (fun _ _ _ _ _ => (pg_vname (i := 14) sc_law.nd rfl (Or.inl rfl))) (fun _ _ _ _ _ => pts_vnil) (fun _ _ _ _ _ => (pe_veq hr.units (pe_vvar 14) pe_vint)))) pa_vnil)) (pa_vcons (pe_vadd (pe_vadd (pe_vsliceV (pe_vvar 5) po_vnone (po_vsome (pe_vvar 6))) (pe_vtup (pa_vcons (pe_vtup (pa_vcons (pe_vix (fun _ _ => rfl) (pe_vvar 5) (pe_vvar 6)) pa_vnil)) pa_vnil))) (pe_vsliceV (pe_vvar 5) (po_vsome (pe_vadd (pe_vvar 6) pe_vint)) po_vnone)) pa_vnil)))))))
    (pss_vcons (ps_vset (i := 8) sc_law.nd rfl (Or.inl rfl) (pe_vcall D_pick.g (hr.mono (by decide)) (by rfl) D_pick.m D_pick.kp D_pick.b (takes_of rfl rfl rfl rfl) (pa_vcons (pe_vvar 2) (pa_vcons (pe_vval (pe_vlst (pa_vcons pe_vint (pa_vcons pe_vnon (pa_vcons pe_vstr (pa_vcons (pe_vix (fun _ _ => rfl) (pe_vvar 5) pe_vint) pa_vnil)))))) pa_vnil)) (vcons_len (vcons_len vnil_len))))
    (pss_vcons (ps_vpre [9] (ps_vfor (passes_of rfl) rfl (pi_vrange (by rfl) B.range_ pe_vint) (pg_vname (i := 9) sc_law.nd rfl (Or.inl rfl)) (pss_vbody [9] (pss_vone (ps_vset (i := 8) sc_law.nd rfl (Or.inl rfl) (pe_vifE (pt_vgt (pe_vcall D_draw.g (hr.mono (by decide)) (by rfl) D_draw.m D_draw.kp D_draw.b (takes_of rfl rfl rfl rfl) (pa_vcons (pe_vvar 2) (pa_vcons pe_vint pa_vnil)) (vcons_len (vcons_len vnil_len))) pe_vint) (pe_vtup (pa_vcons (pe_vvar 8) pa_vnil)) (pe_vval (pe_vlst (pa_vcons (pe_vvar 8) pa_vnil)))))))))
    (pss_vcons (ps_vpre [10] (ps_vfor (passes_of rfl) rfl (pi_vseq (pe_vval (pe_vcat (pe_vvar 7) (pe_vval (pe_vlst (pa_vcons (pe_vvar 8) pa_vnil)))))) (pg_vname (i := 10) sc_law.nd rfl (Or.inl rfl)) (pss_vbody [10] (pss_vone (ps_vif (pt_vne hr.units (pe_vcall D_heard.g (hr.mono (by decide)) (by rfl) D_heard.m D_heard.kp D_heard.b (takes_of rfl rfl rfl rfl) (pa_vcons (pe_vvar 11) (pa_vcons (pe_vvar 10) pa_vnil)) (vcons_len (vcons_len vnil_len))) pe_vstr) (pss_vone (ps_vret pe_vbl)) pss_vnil)))))
    (pss_vone (ps_vif (pt_vne hr.units (pe_vcall D_heard.g (hr.mono (by decide)) (by rfl) D_heard.m D_heard.kp D_heard.b (takes_of rfl rfl rfl rfl) (pa_vcons (pe_vvar 11) (pa_vcons (pe_vvar 5) pa_vnil)) (vcons_len (vcons_len vnil_len))) (pe_vcall D_text.g (hr.mono (by decide)) (by rfl) D_text.m D_text.kp D_text.b (takes_of rfl rfl rfl rfl) (pa_vcons (pe_vval (pe_vcomp (own := [("_law_at", 6)]) (by decide) rfl sc_law.nd (pi_vseq (pe_vvar 5)) (blkOk_by (N := n_law) (sc := defScope s_law) (by decide +kernel)) (fun _ _ _ _ _ => (pg_vname (i := 6) sc_law.nd rfl (Or.inl rfl))) (fun _ _ _ _ _ => pts_vnil) (fun _ _ _ _ _ => (pe_vix (fun _ _ => rfl) (pe_vvar 4) (pe_vvar 6))))) pa_vnil) (vcons_len vnil_len))) (pss_vone (ps_vret pe_vbl)) pss_vnil))))))))))))))))))))))
    (pss_vone (ps_vret (pe_vandV (pe_veq hr.units (pe_vstrO S_Stack.g S_Stack.b W_Stack (hr.mono (by decide)) (by rfl) B.str_ (by decide +kernel) (pa_vcons (pe_vcall D_stack_of.g (hr.mono (by decide)) (by rfl) D_stack_of.m D_stack_of.kp D_stack_of.b (takes_of rfl rfl rfl rfl) (pa_vcons (pe_vval (pe_vlst pa_vnil)) (pa_vcons (pe_vtup pa_vnil) pa_vnil)) (vcons_len (vcons_len vnil_len))) pa_vnil)) pe_vstr) (pe_vone (pe_veq hr.units (pe_vcall D_heard.g (hr.mono (by decide)) (by rfl) D_heard.m D_heard.kp D_heard.b (takes_of rfl rfl rfl rfl) (pa_vcons (pe_vval (pe_vlst pa_vnil)) (pa_vcons (pe_vtup (pa_vcons pe_vint pa_vnil)) pa_vnil)) (vcons_len (vcons_len vnil_len))) pe_vstr))))))
end
end Vw
end
section
namespace Vw
open PySem PySem.Spec PyProof.Rows L2 Own Vs
open PySem.W (mg_of mg_none_of)
theorem all_mk {P : Program} {w : World} {K : PySem.W.Frag} {h : Heap} {mg : Str → Option Value} {fa : Addr} (X : K.In h) (G : h.Ns mainGlobals mg) (hfa : mg "law" = some (.ref fa))
    {C_WrapError C_InvalidRow C_InvalidStack C_InvalidText C_InvalidOrder C_NoRow C_Row C_Keep C_Tries C_Limit C_Leave C_Soft C_Count C_Lend C_Stack K_LIVES K_KEPT_ANSWERS K_FAULTS K_MOST_ASKED K_MOST_TRIES A_Keep_init A_Tries_init A_Limit_init A_Soft_init A_Stack_init A_Row_str A_Row_eq A_Stack_str A_Stack_eq A_source A_draw A_pick A_row A_mixed A_rows A_lot_rows A_orders A_Keep_words A_Tries_words A_Limit_words A_Leave_words A_Soft_words A_Count_words A_Lend_words A_is_sequence A_rows_of A_is_integer A_is_order A_check_order K0_Stack_init A_stack_of A_heard A_check_argument A_is_one_of A_every_row A_Row_read P_Row_read A_row_text A_made_rows A_rows_in A_Stack_read P_Stack_read A_text A_law : Addr} {fd_source fd_draw fd_pick fd_row fd_mixed fd_rows fd_lot_rows fd_orders fd_Keep_words fd_Tries_words fd_Limit_words fd_Leave_words fd_Soft_words fd_Count_words fd_Lend_words fd_Row_str fd_Stack_str fd_is_sequence fd_rows_of fd_is_integer fd_is_order fd_check_order fd_Stack_init fd_stack_of fd_heard fd_check_argument fd_is_one_of fd_Keep_init fd_Tries_init fd_Limit_init fd_Soft_init fd_every_row fd_Row_read fd_row_text fd_made_rows fd_rows_in fd_Stack_read fd_text fd_Stack_eq fd_law : FuncData} {tk1_0 : Tok} {tk1_1 : Tok} {tk1_2 : Tok} {tk1_3 : Tok} {on1 : Nat} {os1 : Array (Option Value)} {tk2_0 : Tok} {tk2_1 : Tok} {on2 : Nat} {os2 : Array (Option Value)} {tk3_0 : Tok} {tk3_1 : Tok} {on3 : Nat} {os3 : Array (Option Value)} {tk4_0 : Tok} {tk4_1 : Tok} {tk4_2 : Tok} {on4 : Nat} {os4 : Array (Option Value)} {tk5_0 : Tok} {tk5_1 : Tok} {tk5_2 : Tok} {tk5_3 : Tok} {tk5_4 : Tok} {tk5_5 : Tok} {on5 : Nat} {os5 : Array (Option Value)} {on6 : Nat} {os6 : Array (Option Value)}
    (a_WrapError : PySem.W.nsIn K mainGlobals "WrapError" = some (some (.ref C_WrapError)))
    (a_InvalidRow : PySem.W.nsIn K mainGlobals "InvalidRow" = some (some (.ref C_InvalidRow)))
    (a_InvalidStack : PySem.W.nsIn K mainGlobals "InvalidStack" = some (some (.ref C_InvalidStack)))
    (a_InvalidText : PySem.W.nsIn K mainGlobals "InvalidText" = some (some (.ref C_InvalidText)))
    (a_InvalidOrder : PySem.W.nsIn K mainGlobals "InvalidOrder" = some (some (.ref C_InvalidOrder)))
    (a_NoRow : PySem.W.nsIn K mainGlobals "NoRow" = some (some (.ref C_NoRow)))
    (a_Row : PySem.W.nsIn K mainGlobals "Row" = some (some (.ref C_Row)))
    (a_Keep : PySem.W.nsIn K mainGlobals "Keep" = some (some (.ref C_Keep)))
    (a_Tries : PySem.W.nsIn K mainGlobals "Tries" = some (some (.ref C_Tries)))
    (a_Limit : PySem.W.nsIn K mainGlobals "Limit" = some (some (.ref C_Limit)))
    (a_Leave : PySem.W.nsIn K mainGlobals "Leave" = some (some (.ref C_Leave)))
    (a_Soft : PySem.W.nsIn K mainGlobals "Soft" = some (some (.ref C_Soft)))
    (a_Count : PySem.W.nsIn K mainGlobals "Count" = some (some (.ref C_Count)))
    (a_Lend : PySem.W.nsIn K mainGlobals "Lend" = some (some (.ref C_Lend)))
    (a_Stack : PySem.W.nsIn K mainGlobals "Stack" = some (some (.ref C_Stack)))
    (z_int : PySem.W.nsIn K mainGlobals "int" = some none)
    (z_abs : PySem.W.nsIn K mainGlobals "abs" = some none)
    (z_len : PySem.W.nsIn K mainGlobals "len" = some none)
    (z_range : PySem.W.nsIn K mainGlobals "range" = some none)
    (z_list : PySem.W.nsIn K mainGlobals "list" = some none)
    (z_tuple : PySem.W.nsIn K mainGlobals "tuple" = some none)
    (z_str : PySem.W.nsIn K mainGlobals "str" = some none)
    (z_max : PySem.W.nsIn K mainGlobals "max" = some none)
    (z_min : PySem.W.nsIn K mainGlobals "min" = some none)
    (z_sorted : PySem.W.nsIn K mainGlobals "sorted" = some none)
    (z_enumerate : PySem.W.nsIn K mainGlobals "enumerate" = some none)
    (z_zip : PySem.W.nsIn K mainGlobals "zip" = some none)
    (z_isinstance : PySem.W.nsIn K mainGlobals "isinstance" = some none)
    (z_bool : PySem.W.nsIn K mainGlobals "bool" = some none)
    (z_any : PySem.W.nsIn K mainGlobals "any" = some none)
    (z_all : PySem.W.nsIn K mainGlobals "all" = some none)
    (z_sum : PySem.W.nsIn K mainGlobals "sum" = some none)
    (cl_Row : Cls K C_Row)
    (cl_Keep : Cls K C_Keep)
    (cl_Tries : Cls K C_Tries)
    (cl_Limit : Cls K C_Limit)
    (cl_Leave : Cls K C_Leave)
    (cl_Soft : Cls K C_Soft)
    (cl_Count : Cls K C_Count)
    (cl_Lend : Cls K C_Lend)
    (cl_Stack : Cls K C_Stack)
    (oc_n : PySem.W.specialIn K (.builtin "object.__class__") "__get__" = some (some (.builtin "getset_descriptor.__get__")))
    (oc_t : PySem.W.takesIn K (.builtin "object.__class__") = some true)
    (ca_Row : PySem.W.findIn K (.ref C_Row) "__class__" = some (some (.builtin "object.__class__")))
    (cm_Row : PySem.W.mroIn K C_Row (.type "object") = some true)
    (ca_Keep : PySem.W.findIn K (.ref C_Keep) "__class__" = some (some (.builtin "object.__class__")))
    (cm_Keep : PySem.W.mroIn K C_Keep (.type "object") = some true)
    (ca_Tries : PySem.W.findIn K (.ref C_Tries) "__class__" = some (some (.builtin "object.__class__")))
    (cm_Tries : PySem.W.mroIn K C_Tries (.type "object") = some true)
    (ca_Limit : PySem.W.findIn K (.ref C_Limit) "__class__" = some (some (.builtin "object.__class__")))
    (cm_Limit : PySem.W.mroIn K C_Limit (.type "object") = some true)
    (ca_Leave : PySem.W.findIn K (.ref C_Leave) "__class__" = some (some (.builtin "object.__class__")))
    (cm_Leave : PySem.W.mroIn K C_Leave (.type "object") = some true)
    (ca_Soft : PySem.W.findIn K (.ref C_Soft) "__class__" = some (some (.builtin "object.__class__")))
    (cm_Soft : PySem.W.mroIn K C_Soft (.type "object") = some true)
    (ca_Count : PySem.W.findIn K (.ref C_Count) "__class__" = some (some (.builtin "object.__class__")))
    (cm_Count : PySem.W.mroIn K C_Count (.type "object") = some true)
    (ca_Lend : PySem.W.findIn K (.ref C_Lend) "__class__" = some (some (.builtin "object.__class__")))
    (cm_Lend : PySem.W.mroIn K C_Lend (.type "object") = some true)
    (ca_Stack : PySem.W.findIn K (.ref C_Stack) "__class__" = some (some (.builtin "object.__class__")))
    (cm_Stack : PySem.W.mroIn K C_Stack (.type "object") = some true)
    (no_what_Row : PySem.W.findIn K (.ref C_Row) "what" = some none)
    (no_what_Keep : PySem.W.findIn K (.ref C_Keep) "what" = some none)
    (no_what_Tries : PySem.W.findIn K (.ref C_Tries) "what" = some none)
    (no_what_Limit : PySem.W.findIn K (.ref C_Limit) "what" = some none)
    (no_what_Leave : PySem.W.findIn K (.ref C_Leave) "what" = some none)
    (no_what_Soft : PySem.W.findIn K (.ref C_Soft) "what" = some none)
    (no_what_Count : PySem.W.findIn K (.ref C_Count) "what" = some none)
    (no_what_Lend : PySem.W.findIn K (.ref C_Lend) "what" = some none)
    (no_what_Stack : PySem.W.findIn K (.ref C_Stack) "what" = some none)
    (no_life_Row : PySem.W.findIn K (.ref C_Row) "life" = some none)
    (no_life_Keep : PySem.W.findIn K (.ref C_Keep) "life" = some none)
    (no_life_Tries : PySem.W.findIn K (.ref C_Tries) "life" = some none)
    (no_life_Limit : PySem.W.findIn K (.ref C_Limit) "life" = some none)
    (no_life_Leave : PySem.W.findIn K (.ref C_Leave) "life" = some none)
    (no_life_Soft : PySem.W.findIn K (.ref C_Soft) "life" = some none)
    (no_life_Count : PySem.W.findIn K (.ref C_Count) "life" = some none)
    (no_life_Lend : PySem.W.findIn K (.ref C_Lend) "life" = some none)
    (no_life_Stack : PySem.W.findIn K (.ref C_Stack) "life" = some none)
    (no_on_Row : PySem.W.findIn K (.ref C_Row) "on" = some none)
    (no_on_Keep : PySem.W.findIn K (.ref C_Keep) "on" = some none)
    (no_on_Tries : PySem.W.findIn K (.ref C_Tries) "on" = some none)
    (no_on_Limit : PySem.W.findIn K (.ref C_Limit) "on" = some none)
    (no_on_Leave : PySem.W.findIn K (.ref C_Leave) "on" = some none)
    (no_on_Soft : PySem.W.findIn K (.ref C_Soft) "on" = some none)
    (no_on_Count : PySem.W.findIn K (.ref C_Count) "on" = some none)
    (no_on_Lend : PySem.W.findIn K (.ref C_Lend) "on" = some none)
    (no_on_Stack : PySem.W.findIn K (.ref C_Stack) "on" = some none)
    (no_many_Row : PySem.W.findIn K (.ref C_Row) "many" = some none)
    (no_many_Keep : PySem.W.findIn K (.ref C_Keep) "many" = some none)
    (no_many_Tries : PySem.W.findIn K (.ref C_Tries) "many" = some none)
    (no_many_Limit : PySem.W.findIn K (.ref C_Limit) "many" = some none)
    (no_many_Leave : PySem.W.findIn K (.ref C_Leave) "many" = some none)
    (no_many_Soft : PySem.W.findIn K (.ref C_Soft) "many" = some none)
    (no_many_Count : PySem.W.findIn K (.ref C_Count) "many" = some none)
    (no_many_Lend : PySem.W.findIn K (.ref C_Lend) "many" = some none)
    (no_many_Stack : PySem.W.findIn K (.ref C_Stack) "many" = some none)
    (no_rows_Row : PySem.W.findIn K (.ref C_Row) "rows" = some none)
    (no_rows_Keep : PySem.W.findIn K (.ref C_Keep) "rows" = some none)
    (no_rows_Tries : PySem.W.findIn K (.ref C_Tries) "rows" = some none)
    (no_rows_Limit : PySem.W.findIn K (.ref C_Limit) "rows" = some none)
    (no_rows_Leave : PySem.W.findIn K (.ref C_Leave) "rows" = some none)
    (no_rows_Soft : PySem.W.findIn K (.ref C_Soft) "rows" = some none)
    (no_rows_Count : PySem.W.findIn K (.ref C_Count) "rows" = some none)
    (no_rows_Lend : PySem.W.findIn K (.ref C_Lend) "rows" = some none)
    (no_rows_Stack : PySem.W.findIn K (.ref C_Stack) "rows" = some none)
    (st_Row_list : PySem.W.subIn K (.ref C_Row) (.type "list") = some false)
    (st_Keep_list : PySem.W.subIn K (.ref C_Keep) (.type "list") = some false)
    (st_Tries_list : PySem.W.subIn K (.ref C_Tries) (.type "list") = some false)
    (st_Limit_list : PySem.W.subIn K (.ref C_Limit) (.type "list") = some false)
    (st_Leave_list : PySem.W.subIn K (.ref C_Leave) (.type "list") = some false)
    (st_Soft_list : PySem.W.subIn K (.ref C_Soft) (.type "list") = some false)
    (st_Count_list : PySem.W.subIn K (.ref C_Count) (.type "list") = some false)
    (st_Lend_list : PySem.W.subIn K (.ref C_Lend) (.type "list") = some false)
    (st_Stack_list : PySem.W.subIn K (.ref C_Stack) (.type "list") = some false)
    (st_Row_tuple : PySem.W.subIn K (.ref C_Row) (.type "tuple") = some false)
    (st_Keep_tuple : PySem.W.subIn K (.ref C_Keep) (.type "tuple") = some false)
    (st_Tries_tuple : PySem.W.subIn K (.ref C_Tries) (.type "tuple") = some false)
    (st_Limit_tuple : PySem.W.subIn K (.ref C_Limit) (.type "tuple") = some false)
    (st_Leave_tuple : PySem.W.subIn K (.ref C_Leave) (.type "tuple") = some false)
    (st_Soft_tuple : PySem.W.subIn K (.ref C_Soft) (.type "tuple") = some false)
    (st_Count_tuple : PySem.W.subIn K (.ref C_Count) (.type "tuple") = some false)
    (st_Lend_tuple : PySem.W.subIn K (.ref C_Lend) (.type "tuple") = some false)
    (st_Stack_tuple : PySem.W.subIn K (.ref C_Stack) (.type "tuple") = some false)
    (ic_Row : PySem.W.isClsIn K C_Row = true)
    (tc_Row : PySem.W.typeIn K (.ref C_Row) = some (.type "type"))
    (sb_NoneType_Row : PySem.W.subIn K (.type "NoneType") (.ref C_Row) = some false)
    (sb_bool_Row : PySem.W.subIn K (.type "bool") (.ref C_Row) = some false)
    (sb_int_Row : PySem.W.subIn K (.type "int") (.ref C_Row) = some false)
    (sb_str_Row : PySem.W.subIn K (.type "str") (.ref C_Row) = some false)
    (sb_list_Row : PySem.W.subIn K (.type "list") (.ref C_Row) = some false)
    (sb_tuple_Row : PySem.W.subIn K (.type "tuple") (.ref C_Row) = some false)
    (ss_Row_Row : PySem.W.subIn K (.ref C_Row) (.ref C_Row) = some true)
    (ss_Keep_Row : PySem.W.subIn K (.ref C_Keep) (.ref C_Row) = some true)
    (ss_Tries_Row : PySem.W.subIn K (.ref C_Tries) (.ref C_Row) = some true)
    (ss_Limit_Row : PySem.W.subIn K (.ref C_Limit) (.ref C_Row) = some true)
    (ss_Leave_Row : PySem.W.subIn K (.ref C_Leave) (.ref C_Row) = some true)
    (ss_Soft_Row : PySem.W.subIn K (.ref C_Soft) (.ref C_Row) = some true)
    (ss_Count_Row : PySem.W.subIn K (.ref C_Count) (.ref C_Row) = some true)
    (ss_Lend_Row : PySem.W.subIn K (.ref C_Lend) (.ref C_Row) = some true)
    (ss_Stack_Row : PySem.W.subIn K (.ref C_Stack) (.ref C_Row) = some false)
    (ne_Stack_Row : C_Stack ≠ C_Row)
    (st_Row_bool : PySem.W.subIn K (.ref C_Row) (.type "bool") = some false)
    (st_Keep_bool : PySem.W.subIn K (.ref C_Keep) (.type "bool") = some false)
    (st_Tries_bool : PySem.W.subIn K (.ref C_Tries) (.type "bool") = some false)
    (st_Limit_bool : PySem.W.subIn K (.ref C_Limit) (.type "bool") = some false)
    (st_Leave_bool : PySem.W.subIn K (.ref C_Leave) (.type "bool") = some false)
    (st_Soft_bool : PySem.W.subIn K (.ref C_Soft) (.type "bool") = some false)
    (st_Count_bool : PySem.W.subIn K (.ref C_Count) (.type "bool") = some false)
    (st_Lend_bool : PySem.W.subIn K (.ref C_Lend) (.type "bool") = some false)
    (st_Stack_bool : PySem.W.subIn K (.ref C_Stack) (.type "bool") = some false)
    (st_Row_int : PySem.W.subIn K (.ref C_Row) (.type "int") = some false)
    (st_Keep_int : PySem.W.subIn K (.ref C_Keep) (.type "int") = some false)
    (st_Tries_int : PySem.W.subIn K (.ref C_Tries) (.type "int") = some false)
    (st_Limit_int : PySem.W.subIn K (.ref C_Limit) (.type "int") = some false)
    (st_Leave_int : PySem.W.subIn K (.ref C_Leave) (.type "int") = some false)
    (st_Soft_int : PySem.W.subIn K (.ref C_Soft) (.type "int") = some false)
    (st_Count_int : PySem.W.subIn K (.ref C_Count) (.type "int") = some false)
    (st_Lend_int : PySem.W.subIn K (.ref C_Lend) (.type "int") = some false)
    (st_Stack_int : PySem.W.subIn K (.ref C_Stack) (.type "int") = some false)
    (ic_Stack : PySem.W.isClsIn K C_Stack = true)
    (tc_Stack : PySem.W.typeIn K (.ref C_Stack) = some (.type "type"))
    (sb_NoneType_Stack : PySem.W.subIn K (.type "NoneType") (.ref C_Stack) = some false)
    (sb_bool_Stack : PySem.W.subIn K (.type "bool") (.ref C_Stack) = some false)
    (sb_int_Stack : PySem.W.subIn K (.type "int") (.ref C_Stack) = some false)
    (sb_str_Stack : PySem.W.subIn K (.type "str") (.ref C_Stack) = some false)
    (sb_list_Stack : PySem.W.subIn K (.type "list") (.ref C_Stack) = some false)
    (sb_tuple_Stack : PySem.W.subIn K (.type "tuple") (.ref C_Stack) = some false)
    (ss_Row_Stack : PySem.W.subIn K (.ref C_Row) (.ref C_Stack) = some false)
    (ne_Row_Stack : C_Row ≠ C_Stack)
    (ss_Keep_Stack : PySem.W.subIn K (.ref C_Keep) (.ref C_Stack) = some false)
    (ne_Keep_Stack : C_Keep ≠ C_Stack)
    (ss_Tries_Stack : PySem.W.subIn K (.ref C_Tries) (.ref C_Stack) = some false)
    (ne_Tries_Stack : C_Tries ≠ C_Stack)
    (ss_Limit_Stack : PySem.W.subIn K (.ref C_Limit) (.ref C_Stack) = some false)
    (ne_Limit_Stack : C_Limit ≠ C_Stack)
    (ss_Leave_Stack : PySem.W.subIn K (.ref C_Leave) (.ref C_Stack) = some false)
    (ne_Leave_Stack : C_Leave ≠ C_Stack)
    (ss_Soft_Stack : PySem.W.subIn K (.ref C_Soft) (.ref C_Stack) = some false)
    (ne_Soft_Stack : C_Soft ≠ C_Stack)
    (ss_Count_Stack : PySem.W.subIn K (.ref C_Count) (.ref C_Stack) = some false)
    (ne_Count_Stack : C_Count ≠ C_Stack)
    (ss_Lend_Stack : PySem.W.subIn K (.ref C_Lend) (.ref C_Stack) = some false)
    (ne_Lend_Stack : C_Lend ≠ C_Stack)
    (ss_Stack_Stack : PySem.W.subIn K (.ref C_Stack) (.ref C_Stack) = some true)
    (g_LIVES : PySem.W.nsIn K mainGlobals "LIVES" = some (some (.ref K_LIVES)))
    (l_LIVES : K.lookup K_LIVES = some ⟨.type "tuple", none, .seq [.int 0 tk1_0, .int 1 tk1_1, .int 2 tk1_2, .int 3 tk1_3].toArray on1, os1⟩)
    (g_KEPT_ANSWERS : PySem.W.nsIn K mainGlobals "KEPT_ANSWERS" = some (some (.ref K_KEPT_ANSWERS)))
    (l_KEPT_ANSWERS : K.lookup K_KEPT_ANSWERS = some ⟨.type "tuple", none, .seq [.str "good" tk2_0, .str "all" tk2_1].toArray on2, os2⟩)
    (g_FAULTS : PySem.W.nsIn K mainGlobals "FAULTS" = some (some (.ref K_FAULTS)))
    (l_FAULTS : K.lookup K_FAULTS = some ⟨.type "tuple", none, .seq [.str "fault" tk3_0, .str "all" tk3_1].toArray on3, os3⟩)
    (g_MOST_ASKED : PySem.W.nsIn K mainGlobals "MOST_ASKED" = some (some (.ref K_MOST_ASKED)))
    (l_MOST_ASKED : K.lookup K_MOST_ASKED = some ⟨.type "tuple", none, .seq [.int 1 tk4_0, .int 2 tk4_1, .int 3 tk4_2].toArray on4, os4⟩)
    (g_MOST_TRIES : PySem.W.nsIn K mainGlobals "MOST_TRIES" = some (some (.ref K_MOST_TRIES)))
    (l_MOST_TRIES : K.lookup K_MOST_TRIES = some ⟨.type "tuple", none, .seq [.int 1 tk5_0, .int 2 tk5_1, .int 3 tk5_2, .int 4 tk5_3, .int 5 tk5_4, .int 6 tk5_5].toArray on5, os5⟩)
    (zk_InvalidOrder : ZOk P K C_InvalidOrder)
    (eb_InvalidOrder : PySem.W.subIn K (.ref C_InvalidOrder) (.type "BaseException") = some true)
    (ei_InvalidOrder : PySem.W.isClsIn K C_InvalidOrder = true)
    (et_InvalidOrder : PySem.W.typeIn K (.ref C_InvalidOrder) = some (.type "type"))
    (es_WrapError_InvalidOrder : PySem.W.subIn K (.ref C_WrapError) (.ref C_InvalidOrder) = some false)
    (es_InvalidRow_InvalidOrder : PySem.W.subIn K (.ref C_InvalidRow) (.ref C_InvalidOrder) = some false)
    (es_InvalidStack_InvalidOrder : PySem.W.subIn K (.ref C_InvalidStack) (.ref C_InvalidOrder) = some false)
    (es_InvalidText_InvalidOrder : PySem.W.subIn K (.ref C_InvalidText) (.ref C_InvalidOrder) = some false)
    (es_InvalidOrder_InvalidOrder : PySem.W.subIn K (.ref C_InvalidOrder) (.ref C_InvalidOrder) = some true)
    (es_NoRow_InvalidOrder : PySem.W.subIn K (.ref C_NoRow) (.ref C_InvalidOrder) = some false)
    (ex_InvalidOrder : L2.ExcC K C_InvalidOrder)
    (eb_InvalidStack : PySem.W.subIn K (.ref C_InvalidStack) (.type "BaseException") = some true)
    (ei_InvalidStack : PySem.W.isClsIn K C_InvalidStack = true)
    (et_InvalidStack : PySem.W.typeIn K (.ref C_InvalidStack) = some (.type "type"))
    (es_InvalidOrder_InvalidStack : PySem.W.subIn K (.ref C_InvalidOrder) (.ref C_InvalidStack) = some false)
    (en_InvalidOrder_InvalidStack : C_InvalidOrder ≠ C_InvalidStack)
    (eb_WrapError : PySem.W.subIn K (.ref C_WrapError) (.type "BaseException") = some true)
    (ei_WrapError : PySem.W.isClsIn K C_WrapError = true)
    (et_WrapError : PySem.W.typeIn K (.ref C_WrapError) = some (.type "type"))
    (es_InvalidOrder_WrapError : PySem.W.subIn K (.ref C_InvalidOrder) (.ref C_WrapError) = some true)
    (en_InvalidOrder_WrapError : C_InvalidOrder ≠ C_WrapError)
    (mo_Lend : Own.MkO K C_Lend)
    (mo_Count : Own.MkO K C_Count)
    (mo_Leave : Own.MkO K C_Leave)
    (mk_Keep : Mk K C_Keep A_Keep_init)
    (mk_Tries : Mk K C_Tries A_Tries_init)
    (mk_Limit : Mk K C_Limit A_Limit_init)
    (mk_Soft : Mk K C_Soft A_Soft_init)
    (mk_Stack : Mk K C_Stack A_Stack_init)
    (own_Row : Own.OwnC K C_Row A_Row_str A_Row_eq)
    (own_Keep : Own.OwnC K C_Keep A_Row_str A_Row_eq)
    (own_Tries : Own.OwnC K C_Tries A_Row_str A_Row_eq)
    (own_Limit : Own.OwnC K C_Limit A_Row_str A_Row_eq)
    (own_Leave : Own.OwnC K C_Leave A_Row_str A_Row_eq)
    (own_Soft : Own.OwnC K C_Soft A_Row_str A_Row_eq)
    (own_Count : Own.OwnC K C_Count A_Row_str A_Row_eq)
    (own_Lend : Own.OwnC K C_Lend A_Row_str A_Row_eq)
    (own_Stack : Own.OwnC K C_Stack A_Stack_str A_Stack_eq)
    (nf_Stack_Stack : PySem.W.notFirst K C_Stack (.ref C_Stack) = true)
    (a_fn__law_source : PySem.W.nsIn K mainGlobals "_law_source" = some (some (.ref A_source)))
    (F_source : Fun K "_law_source" "_law_source" s_law_source A_source fd_source)
    (a_fn__law_draw : PySem.W.nsIn K mainGlobals "_law_draw" = some (some (.ref A_draw)))
    (F_draw : Fun K "_law_draw" "_law_draw" s_law_draw A_draw fd_draw)
    (a_fn__law_pick : PySem.W.nsIn K mainGlobals "_law_pick" = some (some (.ref A_pick)))
    (F_pick : Fun K "_law_pick" "_law_pick" s_law_pick A_pick fd_pick)
    (a_fn__law_row : PySem.W.nsIn K mainGlobals "_law_row" = some (some (.ref A_row)))
    (F_row : Fun K "_law_row" "_law_row" s_law_row A_row fd_row)
    (a_fn__law_mixed : PySem.W.nsIn K mainGlobals "_law_mixed" = some (some (.ref A_mixed)))
    (F_mixed : Fun K "_law_mixed" "_law_mixed" s_law_mixed A_mixed fd_mixed)
    (a_fn__law_rows : PySem.W.nsIn K mainGlobals "_law_rows" = some (some (.ref A_rows)))
    (F_rows : Fun K "_law_rows" "_law_rows" s_law_rows A_rows fd_rows)
    (a_fn__law_lot_rows : PySem.W.nsIn K mainGlobals "_law_lot_rows" = some (some (.ref A_lot_rows)))
    (F_lot_rows : Fun K "_law_lot_rows" "_law_lot_rows" s_law_lot_rows A_lot_rows fd_lot_rows)
    (a_fn__law_orders : PySem.W.nsIn K mainGlobals "_law_orders" = some (some (.ref A_orders)))
    (F_orders : Fun K "_law_orders" "_law_orders" s_law_orders A_orders fd_orders)
    (mt_Keep_words : Meth K C_Keep "words" A_Keep_words)
    (F_Keep_words : Fun K "words" "Keep.words" s_Keep_words A_Keep_words fd_Keep_words)
    (mt_Tries_words : Meth K C_Tries "words" A_Tries_words)
    (F_Tries_words : Fun K "words" "Tries.words" s_Tries_words A_Tries_words fd_Tries_words)
    (mt_Limit_words : Meth K C_Limit "words" A_Limit_words)
    (F_Limit_words : Fun K "words" "Limit.words" s_Limit_words A_Limit_words fd_Limit_words)
    (mt_Leave_words : Meth K C_Leave "words" A_Leave_words)
    (F_Leave_words : Fun K "words" "Leave.words" s_Leave_words A_Leave_words fd_Leave_words)
    (mt_Soft_words : Meth K C_Soft "words" A_Soft_words)
    (F_Soft_words : Fun K "words" "Soft.words" s_Soft_words A_Soft_words fd_Soft_words)
    (mt_Count_words : Meth K C_Count "words" A_Count_words)
    (F_Count_words : Fun K "words" "Count.words" s_Count_words A_Count_words fd_Count_words)
    (mt_Lend_words : Meth K C_Lend "words" A_Lend_words)
    (F_Lend_words : Fun K "words" "Lend.words" s_Lend_words A_Lend_words fd_Lend_words)
    (F_Row_str : Fun K "__str__" "Row.__str__" s_Row_str A_Row_str fd_Row_str)
    (F_Stack_str : Fun K "__str__" "Stack.__str__" s_Stack_str A_Stack_str fd_Stack_str)
    (a_fn_is_sequence : PySem.W.nsIn K mainGlobals "is_sequence" = some (some (.ref A_is_sequence)))
    (F_is_sequence : Fun K "is_sequence" "is_sequence" s_is_sequence A_is_sequence fd_is_sequence)
    (a_fn_rows_of : PySem.W.nsIn K mainGlobals "rows_of" = some (some (.ref A_rows_of)))
    (F_rows_of : Fun K "rows_of" "rows_of" s_rows_of A_rows_of fd_rows_of)
    (a_fn_is_integer : PySem.W.nsIn K mainGlobals "is_integer" = some (some (.ref A_is_integer)))
    (F_is_integer : Fun K "is_integer" "is_integer" s_is_integer A_is_integer fd_is_integer)
    (a_fn_is_order : PySem.W.nsIn K mainGlobals "is_order" = some (some (.ref A_is_order)))
    (F_is_order : Fun K "is_order" "is_order" s_is_order A_is_order fd_is_order)
    (a_fn_check_order : PySem.W.nsIn K mainGlobals "check_order" = some (some (.ref A_check_order)))
    (F_check_order : Fun K "check_order" "check_order" s_check_order A_check_order fd_check_order)
    (F_Stack_init : FunD K "__init__" "Stack.__init__" (defArgs s_Stack_init) (defBody s_Stack_init) (defScope s_Stack_init) [.ref K0_Stack_init] [] A_Stack_init fd_Stack_init)
    (l0_Stack_init : K.lookup K0_Stack_init = some ⟨.type "tuple", none, .seq [].toArray on6, os6⟩)
    (a_fn_stack_of : PySem.W.nsIn K mainGlobals "stack_of" = some (some (.ref A_stack_of)))
    (F_stack_of : Fun K "stack_of" "stack_of" s_stack_of A_stack_of fd_stack_of)
    (a_fn__law_heard : PySem.W.nsIn K mainGlobals "_law_heard" = some (some (.ref A_heard)))
    (F_heard : Fun K "_law_heard" "_law_heard" s_law_heard A_heard fd_heard)
    (a_fn_check_argument : PySem.W.nsIn K mainGlobals "check_argument" = some (some (.ref A_check_argument)))
    (F_check_argument : Fun K "check_argument" "check_argument" s_check_argument A_check_argument fd_check_argument)
    (a_fn_is_one_of : PySem.W.nsIn K mainGlobals "is_one_of" = some (some (.ref A_is_one_of)))
    (F_is_one_of : Fun K "is_one_of" "is_one_of" s_is_one_of A_is_one_of fd_is_one_of)
    (F_Keep_init : FunD K "__init__" "Keep.__init__" (defArgs s_Keep_init) (defBody s_Keep_init) (defScope s_Keep_init) [.str "good", .non] [] A_Keep_init fd_Keep_init)
    (F_Tries_init : FunD K "__init__" "Tries.__init__" (defArgs s_Tries_init) (defBody s_Tries_init) (defScope s_Tries_init) [.str "fault"] [] A_Tries_init fd_Tries_init)
    (F_Limit_init : Fun K "__init__" "Limit.__init__" s_Limit_init A_Limit_init fd_Limit_init)
    (F_Soft_init : FunD K "__init__" "Soft.__init__" (defArgs s_Soft_init) (defBody s_Soft_init) (defScope s_Soft_init) [.str "fault"] [] A_Soft_init fd_Soft_init)
    (a_fn_every_row : PySem.W.nsIn K mainGlobals "every_row" = some (some (.ref A_every_row)))
    (F_every_row : Fun K "every_row" "every_row" s_every_row A_every_row fd_every_row)
    (cr_Row_read : ClX.CRead K C_Row (.type "type"))
    (cmt_Row_read : ClX.CMet K C_Row (.type "type") "read" P_Row_read A_Row_read)
    (F_Row_read : Fun K "read" "Row.read" s_Row_read A_Row_read fd_Row_read)
    (a_fn__law_row_text : PySem.W.nsIn K mainGlobals "_law_row_text" = some (some (.ref A_row_text)))
    (F_row_text : Fun K "_law_row_text" "_law_row_text" s_law_row_text A_row_text fd_row_text)
    (a_fn__law_made_rows : PySem.W.nsIn K mainGlobals "_law_made_rows" = some (some (.ref A_made_rows)))
    (F_made_rows : Fun K "_law_made_rows" "_law_made_rows" s_law_made_rows A_made_rows fd_made_rows)
    (a_fn_rows_in : PySem.W.nsIn K mainGlobals "rows_in" = some (some (.ref A_rows_in)))
    (F_rows_in : Fun K "rows_in" "rows_in" s_rows_in A_rows_in fd_rows_in)
    (cr_Stack_read : ClX.CRead K C_Stack (.type "type"))
    (cmt_Stack_read : ClX.CMet K C_Stack (.type "type") "read" P_Stack_read A_Stack_read)
    (F_Stack_read : Fun K "read" "Stack.read" s_Stack_read A_Stack_read fd_Stack_read)
    (a_fn__law_text : PySem.W.nsIn K mainGlobals "_law_text" = some (some (.ref A_text)))
    (F_text : Fun K "_law_text" "_law_text" s_law_text A_text fd_text)
    (F_Stack_eq : Fun K "__eq__" "Stack.__eq__" s_Stack_eq A_Stack_eq fd_Stack_eq)
    (a_fn_law : PySem.W.nsIn K mainGlobals "law" = some (some (.ref A_law)))
    (F_law : Fun K "law" "law" s_law A_law fd_law) :
    ∃ fd : FuncData, (∀ (s : Shared) (v : Value), BindsTo s fd ⟨[v], []⟩ [("_law_script", v)]) ∧ ∀ base : Heap, FnOk P w K mg base (L2.CX P w) 10 fa fd ["_law_script"] (@SpV ⟨P, w, fun _ => none, []⟩ K 1 (f_law ⟨C_WrapError, C_InvalidRow, C_InvalidStack, C_InvalidText, C_InvalidOrder, C_NoRow, C_Row, C_Keep, C_Tries, C_Limit, C_Leave, C_Soft, C_Count, C_Lend, C_Stack⟩)) := by
  letI : WW := ⟨P, w, fun _ => none, []⟩
  have e := hfa.symm.trans (mg_of X G a_fn_law)
  cases e
  refine ⟨fd_law, fun s v => ?bnd, fun base => ?_⟩
  case bnd => obtain ⟨_, _, _, _, _, _, _, _, _, rfl, _, _⟩ := F_law.ex; exact .of_eq rfl
  let c : CS := ⟨C_WrapError, C_InvalidRow, C_InvalidStack, C_InvalidText, C_InvalidOrder, C_NoRow, C_Row, C_Keep, C_Tries, C_Limit, C_Leave, C_Soft, C_Count, C_Lend, C_Stack⟩
  have it_Row : InsTy K C_Row := insTy_of cl_Row ca_Row oc_n oc_t cm_Row
  have it_Keep : InsTy K C_Keep := insTy_of cl_Keep ca_Keep oc_n oc_t cm_Keep
  have it_Tries : InsTy K C_Tries := insTy_of cl_Tries ca_Tries oc_n oc_t cm_Tries
  have it_Limit : InsTy K C_Limit := insTy_of cl_Limit ca_Limit oc_n oc_t cm_Limit
  have it_Leave : InsTy K C_Leave := insTy_of cl_Leave ca_Leave oc_n oc_t cm_Leave
  have it_Soft : InsTy K C_Soft := insTy_of cl_Soft ca_Soft oc_n oc_t cm_Soft
  have it_Count : InsTy K C_Count := insTy_of cl_Count ca_Count oc_n oc_t cm_Count
  have it_Lend : InsTy K C_Lend := insTy_of cl_Lend ca_Lend oc_n oc_t cm_Lend
  have it_Stack : InsTy K C_Stack := insTy_of cl_Stack ca_Stack oc_n oc_t cm_Stack
  have O_what : FldOk K "what" (okA c) := fldOk_of (ma1 ⟨cl_Row, no_what_Row⟩ (ma1 ⟨cl_Keep, no_what_Keep⟩ (ma1 ⟨cl_Tries, no_what_Tries⟩ (ma1 ⟨cl_Limit, no_what_Limit⟩ (ma1 ⟨cl_Leave, no_what_Leave⟩ (ma1 ⟨cl_Soft, no_what_Soft⟩ (ma1 ⟨cl_Count, no_what_Count⟩ (ma1 ⟨cl_Lend, no_what_Lend⟩ (ma1 ⟨cl_Stack, no_what_Stack⟩ ma0)))))))))
  have O_life : FldOk K "life" (okA c) := fldOk_of (ma1 ⟨cl_Row, no_life_Row⟩ (ma1 ⟨cl_Keep, no_life_Keep⟩ (ma1 ⟨cl_Tries, no_life_Tries⟩ (ma1 ⟨cl_Limit, no_life_Limit⟩ (ma1 ⟨cl_Leave, no_life_Leave⟩ (ma1 ⟨cl_Soft, no_life_Soft⟩ (ma1 ⟨cl_Count, no_life_Count⟩ (ma1 ⟨cl_Lend, no_life_Lend⟩ (ma1 ⟨cl_Stack, no_life_Stack⟩ ma0)))))))))
  have O_on : FldOk K "on" (okA c) := fldOk_of (ma1 ⟨cl_Row, no_on_Row⟩ (ma1 ⟨cl_Keep, no_on_Keep⟩ (ma1 ⟨cl_Tries, no_on_Tries⟩ (ma1 ⟨cl_Limit, no_on_Limit⟩ (ma1 ⟨cl_Leave, no_on_Leave⟩ (ma1 ⟨cl_Soft, no_on_Soft⟩ (ma1 ⟨cl_Count, no_on_Count⟩ (ma1 ⟨cl_Lend, no_on_Lend⟩ (ma1 ⟨cl_Stack, no_on_Stack⟩ ma0)))))))))
  have O_many : FldOk K "many" (okA c) := fldOk_of (ma1 ⟨cl_Row, no_many_Row⟩ (ma1 ⟨cl_Keep, no_many_Keep⟩ (ma1 ⟨cl_Tries, no_many_Tries⟩ (ma1 ⟨cl_Limit, no_many_Limit⟩ (ma1 ⟨cl_Leave, no_many_Leave⟩ (ma1 ⟨cl_Soft, no_many_Soft⟩ (ma1 ⟨cl_Count, no_many_Count⟩ (ma1 ⟨cl_Lend, no_many_Lend⟩ (ma1 ⟨cl_Stack, no_many_Stack⟩ ma0)))))))))
  have O_rows : FldOk K "rows" (okA c) := fldOk_of (ma1 ⟨cl_Row, no_rows_Row⟩ (ma1 ⟨cl_Keep, no_rows_Keep⟩ (ma1 ⟨cl_Tries, no_rows_Tries⟩ (ma1 ⟨cl_Limit, no_rows_Limit⟩ (ma1 ⟨cl_Leave, no_rows_Leave⟩ (ma1 ⟨cl_Soft, no_rows_Soft⟩ (ma1 ⟨cl_Count, no_rows_Count⟩ (ma1 ⟨cl_Lend, no_rows_Lend⟩ (ma1 ⟨cl_Stack, no_rows_Stack⟩ ma0)))))))))
  have I_list : CtOk K (.type "list") (ctB c) := ctB_of (ma1 ⟨kit_tp (by decide +kernel) st_Row_list, it_Row⟩ (ma1 ⟨kit_tp (by decide +kernel) st_Keep_list, it_Keep⟩ (ma1 ⟨kit_tp (by decide +kernel) st_Tries_list, it_Tries⟩ (ma1 ⟨kit_tp (by decide +kernel) st_Limit_list, it_Limit⟩ (ma1 ⟨kit_tp (by decide +kernel) st_Leave_list, it_Leave⟩ (ma1 ⟨kit_tp (by decide +kernel) st_Soft_list, it_Soft⟩ (ma1 ⟨kit_tp (by decide +kernel) st_Count_list, it_Count⟩ (ma1 ⟨kit_tp (by decide +kernel) st_Lend_list, it_Lend⟩ (ma1 ⟨kit_tp (by decide +kernel) st_Stack_list, it_Stack⟩ ma0)))))))))
  have I_tuple : CtOk K (.type "tuple") (ctB c) := ctB_of (ma1 ⟨kit_tp (by decide +kernel) st_Row_tuple, it_Row⟩ (ma1 ⟨kit_tp (by decide +kernel) st_Keep_tuple, it_Keep⟩ (ma1 ⟨kit_tp (by decide +kernel) st_Tries_tuple, it_Tries⟩ (ma1 ⟨kit_tp (by decide +kernel) st_Limit_tuple, it_Limit⟩ (ma1 ⟨kit_tp (by decide +kernel) st_Leave_tuple, it_Leave⟩ (ma1 ⟨kit_tp (by decide +kernel) st_Soft_tuple, it_Soft⟩ (ma1 ⟨kit_tp (by decide +kernel) st_Count_tuple, it_Count⟩ (ma1 ⟨kit_tp (by decide +kernel) st_Lend_tuple, it_Lend⟩ (ma1 ⟨kit_tp (by decide +kernel) st_Stack_tuple, it_Stack⟩ ma0)))))))))
  have I_Row : IsT K [.ref c.Row] (tyTab (fun _ => false) (ct_Row c)) := isT_own ic_Row tc_Row sb_NoneType_Row sb_bool_Row sb_int_Row sb_str_Row sb_list_Row sb_tuple_Row (ct_of (ma1 ⟨kit_own ic_Row tc_Row ss_Row_Row (.inr rfl), it_Row⟩ (ma1 ⟨kit_own ic_Row tc_Row ss_Keep_Row (.inr rfl), it_Keep⟩ (ma1 ⟨kit_own ic_Row tc_Row ss_Tries_Row (.inr rfl), it_Tries⟩ (ma1 ⟨kit_own ic_Row tc_Row ss_Limit_Row (.inr rfl), it_Limit⟩ (ma1 ⟨kit_own ic_Row tc_Row ss_Leave_Row (.inr rfl), it_Leave⟩ (ma1 ⟨kit_own ic_Row tc_Row ss_Soft_Row (.inr rfl), it_Soft⟩ (ma1 ⟨kit_own ic_Row tc_Row ss_Count_Row (.inr rfl), it_Count⟩ (ma1 ⟨kit_own ic_Row tc_Row ss_Lend_Row (.inr rfl), it_Lend⟩ ma0)))))))) (ma1 ⟨kit_own ic_Row tc_Row ss_Stack_Row (.inl (bfR ne_Stack_Row)), it_Stack⟩ ma0))
  have I_bool : CtOk K (.type "bool") (ctB c) := ctB_of (ma1 ⟨kit_tp (by decide +kernel) st_Row_bool, it_Row⟩ (ma1 ⟨kit_tp (by decide +kernel) st_Keep_bool, it_Keep⟩ (ma1 ⟨kit_tp (by decide +kernel) st_Tries_bool, it_Tries⟩ (ma1 ⟨kit_tp (by decide +kernel) st_Limit_bool, it_Limit⟩ (ma1 ⟨kit_tp (by decide +kernel) st_Leave_bool, it_Leave⟩ (ma1 ⟨kit_tp (by decide +kernel) st_Soft_bool, it_Soft⟩ (ma1 ⟨kit_tp (by decide +kernel) st_Count_bool, it_Count⟩ (ma1 ⟨kit_tp (by decide +kernel) st_Lend_bool, it_Lend⟩ (ma1 ⟨kit_tp (by decide +kernel) st_Stack_bool, it_Stack⟩ ma0)))))))))
  have I_int : CtOk K (.type "int") (ctB c) := ctB_of (ma1 ⟨kit_tp (by decide +kernel) st_Row_int, it_Row⟩ (ma1 ⟨kit_tp (by decide +kernel) st_Keep_int, it_Keep⟩ (ma1 ⟨kit_tp (by decide +kernel) st_Tries_int, it_Tries⟩ (ma1 ⟨kit_tp (by decide +kernel) st_Limit_int, it_Limit⟩ (ma1 ⟨kit_tp (by decide +kernel) st_Leave_int, it_Leave⟩ (ma1 ⟨kit_tp (by decide +kernel) st_Soft_int, it_Soft⟩ (ma1 ⟨kit_tp (by decide +kernel) st_Count_int, it_Count⟩ (ma1 ⟨kit_tp (by decide +kernel) st_Lend_int, it_Lend⟩ (ma1 ⟨kit_tp (by decide +kernel) st_Stack_int, it_Stack⟩ ma0)))))))))
  have I_Stack : IsT K [.ref c.Stack] (tyTab (fun _ => false) (ct_Stack c)) := isT_own ic_Stack tc_Stack sb_NoneType_Stack sb_bool_Stack sb_int_Stack sb_str_Stack sb_list_Stack sb_tuple_Stack (ct_of (ma1 ⟨kit_own ic_Stack tc_Stack ss_Stack_Stack (.inr rfl), it_Stack⟩ ma0) (ma1 ⟨kit_own ic_Stack tc_Stack ss_Row_Stack (.inl (bfR ne_Row_Stack)), it_Row⟩ (ma1 ⟨kit_own ic_Stack tc_Stack ss_Keep_Stack (.inl (bfR ne_Keep_Stack)), it_Keep⟩ (ma1 ⟨kit_own ic_Stack tc_Stack ss_Tries_Stack (.inl (bfR ne_Tries_Stack)), it_Tries⟩ (ma1 ⟨kit_own ic_Stack tc_Stack ss_Limit_Stack (.inl (bfR ne_Limit_Stack)), it_Limit⟩ (ma1 ⟨kit_own ic_Stack tc_Stack ss_Leave_Stack (.inl (bfR ne_Leave_Stack)), it_Leave⟩ (ma1 ⟨kit_own ic_Stack tc_Stack ss_Soft_Stack (.inl (bfR ne_Soft_Stack)), it_Soft⟩ (ma1 ⟨kit_own ic_Stack tc_Stack ss_Count_Stack (.inl (bfR ne_Count_Stack)), it_Count⟩ (ma1 ⟨kit_own ic_Stack tc_Stack ss_Lend_Stack (.inl (bfR ne_Lend_Stack)), it_Lend⟩ ma0)))))))))
  have M_Row : mg "Row" = some (.ref C_Row) := mg_of X G a_Row
  have M_InvalidOrder : mg "InvalidOrder" = some (.ref C_InvalidOrder) := mg_of X G a_InvalidOrder
  have M_InvalidStack : mg "InvalidStack" = some (.ref C_InvalidStack) := mg_of X G a_InvalidStack
  have M_WrapError : mg "WrapError" = some (.ref C_WrapError) := mg_of X G a_WrapError
  have M_Lend : mg "Lend" = some (.ref C_Lend) := mg_of X G a_Lend
  have M_Count : mg "Count" = some (.ref C_Count) := mg_of X G a_Count
  have M_Leave : mg "Leave" = some (.ref C_Leave) := mg_of X G a_Leave
  have M_Stack : mg "Stack" = some (.ref C_Stack) := mg_of X G a_Stack
  have G_LIVES : GV K mg "LIVES" (.tup [(.int 0), (.int 1), (.int 2), (.int 3)]) := ⟨.ref K_LIVES, .ref K_LIVES, mg_of X G g_LIVES, rfl, (fun F => .tup (KTup.of (xs := [.int 0, .int 1, .int 2, .int 3]) l_LIVES (by simp) (.cons ⟨_, rfl⟩ (.cons ⟨_, rfl⟩ (.cons ⟨_, rfl⟩ (.cons ⟨_, rfl⟩ .nil)))) F) (.cons (.int _) (.cons (.int _) (.cons (.int _) (.cons (.int _) .nil)))))⟩
  have G_KEPT_ANSWERS : GV K mg "KEPT_ANSWERS" (.tup [(.str "good"), (.str "all")]) := ⟨.ref K_KEPT_ANSWERS, .ref K_KEPT_ANSWERS, mg_of X G g_KEPT_ANSWERS, rfl, (fun F => .tup (KTup.of (xs := [.str "good", .str "all"]) l_KEPT_ANSWERS (by simp) (.cons ⟨_, rfl⟩ (.cons ⟨_, rfl⟩ .nil)) F) (.cons (.str _) (.cons (.str _) .nil)))⟩
  have G_FAULTS : GV K mg "FAULTS" (.tup [(.str "fault"), (.str "all")]) := ⟨.ref K_FAULTS, .ref K_FAULTS, mg_of X G g_FAULTS, rfl, (fun F => .tup (KTup.of (xs := [.str "fault", .str "all"]) l_FAULTS (by simp) (.cons ⟨_, rfl⟩ (.cons ⟨_, rfl⟩ .nil)) F) (.cons (.str _) (.cons (.str _) .nil)))⟩
  have G_MOST_ASKED : GV K mg "MOST_ASKED" (.tup [(.int 1), (.int 2), (.int 3)]) := ⟨.ref K_MOST_ASKED, .ref K_MOST_ASKED, mg_of X G g_MOST_ASKED, rfl, (fun F => .tup (KTup.of (xs := [.int 1, .int 2, .int 3]) l_MOST_ASKED (by simp) (.cons ⟨_, rfl⟩ (.cons ⟨_, rfl⟩ (.cons ⟨_, rfl⟩ .nil))) F) (.cons (.int _) (.cons (.int _) (.cons (.int _) .nil))))⟩
  have G_MOST_TRIES : GV K mg "MOST_TRIES" (.tup [(.int 1), (.int 2), (.int 3), (.int 4), (.int 5), (.int 6)]) := ⟨.ref K_MOST_TRIES, .ref K_MOST_TRIES, mg_of X G g_MOST_TRIES, rfl, (fun F => .tup (KTup.of (xs := [.int 1, .int 2, .int 3, .int 4, .int 5, .int 6]) l_MOST_TRIES (by simp) (.cons ⟨_, rfl⟩ (.cons ⟨_, rfl⟩ (.cons ⟨_, rfl⟩ (.cons ⟨_, rfl⟩ (.cons ⟨_, rfl⟩ (.cons ⟨_, rfl⟩ .nil)))))) F) (.cons (.int _) (.cons (.int _) (.cons (.int _) (.cons (.int _) (.cons (.int _) (.cons (.int _) .nil)))))))⟩
  have TM_InvalidOrder : ∀ C b, mt_InvalidOrder c C = some b → PySem.W.exmOne K (.ref C) (.ref c.InvalidOrder) = some b := tm_of (ma1 (exm_own eb_InvalidOrder ei_InvalidOrder et_InvalidOrder es_InvalidOrder_InvalidOrder) ma0) (ma1 (exm_own eb_InvalidOrder ei_InvalidOrder et_InvalidOrder es_WrapError_InvalidOrder) (ma1 (exm_own eb_InvalidOrder ei_InvalidOrder et_InvalidOrder es_InvalidRow_InvalidOrder) (ma1 (exm_own eb_InvalidOrder ei_InvalidOrder et_InvalidOrder es_InvalidStack_InvalidOrder) (ma1 (exm_own eb_InvalidOrder ei_InvalidOrder et_InvalidOrder es_InvalidText_InvalidOrder) (ma1 (exm_own eb_InvalidOrder ei_InvalidOrder et_InvalidOrder es_NoRow_InvalidOrder) ma0)))))
  have EX_InvalidOrder : L2.ExcC K c.InvalidOrder := ex_InvalidOrder
  have KX_InvalidOrder_InvalidStack : PySem.W.kitOne K (.ref c.InvalidOrder) (.ref c.InvalidStack) = some false := kit_own ei_InvalidStack et_InvalidStack es_InvalidOrder_InvalidStack (.inl (bfR en_InvalidOrder_InvalidStack))
  have KX_InvalidOrder_WrapError : PySem.W.kitOne K (.ref c.InvalidOrder) (.ref c.WrapError) = some true := kit_own ei_WrapError et_WrapError es_InvalidOrder_WrapError (.inl (bfR en_InvalidOrder_WrapError))
  have MO_Lend : Own.MkO K c.Lend := mo_Lend
  have MO_Count : Own.MkO K c.Count := mo_Count
  have MO_Leave : Own.MkO K c.Leave := mo_Leave
  have B : Bn mg := ⟨mg_none_of X G z_int, mg_none_of X G z_abs, mg_none_of X G z_len, mg_none_of X G z_range, mg_none_of X G z_list, mg_none_of X G z_tuple, mg_none_of X G z_str, mg_none_of X G z_max, mg_none_of X G z_min, mg_none_of X G z_sorted, mg_none_of X G z_enumerate, mg_none_of X G z_zip, mg_none_of X G z_isinstance, mg_none_of X G z_bool, mg_none_of X G z_any, mg_none_of X G z_all, mg_none_of X G z_sum⟩
  have b_source : Binds K fd_source ["_law_script", "_law_base"] [] := F_source.binds (ps := ["_law_script", "_law_base"]) fun _ _ _ _ _ _ us hl => match us, hl with | [_, _], _ => rfl
  have g_source := okv_source (P := P) (w := w) (base := base) (c := c) F_source B
  have D_source : DV P w K mg base "_law_source" 1 2 (f_source c) := ⟨_, _, _, mg_of X G a_fn__law_source, F_source.kp, g_source, b_source⟩
  have b_draw : Binds K fd_draw ["_law_deal", "_law_wide"] [] := F_draw.binds (ps := ["_law_deal", "_law_wide"]) fun _ _ _ _ _ _ us hl => match us, hl with | [_, _], _ => rfl
  have g_draw := okv_draw (P := P) (w := w) (base := base) (c := c) F_draw B
  have D_draw : DV P w K mg base "_law_draw" 1 2 (f_draw c) := ⟨_, _, _, mg_of X G a_fn__law_draw, F_draw.kp, g_draw, b_draw⟩
  have b_pick : Binds K fd_pick ["_law_deal", "_law_some"] [] := F_pick.binds (ps := ["_law_deal", "_law_some"]) fun _ _ _ _ _ _ us hl => match us, hl with | [_, _], _ => rfl
  have g_pick := okv_pick (P := P) (w := w) (base := base) (c := c) F_pick B D_draw
  have D_pick : DV P w K mg base "_law_pick" 2 2 (f_pick c) := ⟨_, _, _, mg_of X G a_fn__law_pick, F_pick.kp, g_pick, b_pick⟩
  have b_row : Binds K fd_row ["_law_deal", "_law_sort"] [] := F_row.binds (ps := ["_law_deal", "_law_sort"]) fun _ _ _ _ _ _ us hl => match us, hl with | [_, _], _ => rfl
  have g_row := okv_row (P := P) (w := w) (base := base) (c := c) F_row B D_pick D_draw
  have D_row : DV P w K mg base "_law_row" 3 2 (f_row c) := ⟨_, _, _, mg_of X G a_fn__law_row, F_row.kp, g_row, b_row⟩
  have b_mixed : Binds K fd_mixed ["_law_deal", "_law_some"] [] := F_mixed.binds (ps := ["_law_deal", "_law_some"]) fun _ _ _ _ _ _ us hl => match us, hl with | [_, _], _ => rfl
  have g_mixed := okv_mixed (P := P) (w := w) (base := base) (c := c) F_mixed B D_draw
  have D_mixed : DV P w K mg base "_law_mixed" 2 2 (f_mixed c) := ⟨_, _, _, mg_of X G a_fn__law_mixed, F_mixed.kp, g_mixed, b_mixed⟩
  have b_rows : Binds K fd_rows ["_law_deal", "_law_amount"] [] := F_rows.binds (ps := ["_law_deal", "_law_amount"]) fun _ _ _ _ _ _ us hl => match us, hl with | [_, _], _ => rfl
  have g_rows := okv_rows (P := P) (w := w) (base := base) (c := c) F_rows B D_mixed D_row
  have D_rows : DV P w K mg base "_law_rows" 4 2 (f_rows c) := ⟨_, _, _, mg_of X G a_fn__law_rows, F_rows.kp, g_rows, b_rows⟩
  have b_lot_rows : Binds K fd_lot_rows ["_law_deal", "_law_amount"] [] := F_lot_rows.binds (ps := ["_law_deal", "_law_amount"]) fun _ _ _ _ _ _ us hl => match us, hl with | [_, _], _ => rfl
  have g_lot_rows := okv_lot_rows (P := P) (w := w) (base := base) (c := c) F_lot_rows B D_rows
  have D_lot_rows : DV P w K mg base "_law_lot_rows" 5 2 (f_lot_rows c) := ⟨_, _, _, mg_of X G a_fn__law_lot_rows, F_lot_rows.kp, g_lot_rows, b_lot_rows⟩
  have b_orders : Binds K fd_orders ["_law_amount"] [] := F_orders.binds (ps := ["_law_amount"]) fun _ _ _ _ _ _ us hl => match us, hl with | [_], _ => rfl
  have g_orders := okv_orders (P := P) (w := w) (base := base) (c := c) F_orders B
  have D_orders : DV P w K mg base "_law_orders" 1 1 (f_orders c) := ⟨_, _, _, mg_of X G a_fn__law_orders, F_orders.kp, g_orders, b_orders⟩
  have b_Keep_words : Binds K fd_Keep_words ["self"] [] := F_Keep_words.binds (ps := ["self"]) fun _ _ _ _ _ _ us hl => match us, hl with | [_], _ => rfl
  have g_Keep_words := okv_Keep_words (P := P) (w := w) (base := base) (c := c) F_Keep_words B O_what O_life
  have b_Tries_words : Binds K fd_Tries_words ["self"] [] := F_Tries_words.binds (ps := ["self"]) fun _ _ _ _ _ _ us hl => match us, hl with | [_], _ => rfl
  have g_Tries_words := okv_Tries_words (P := P) (w := w) (base := base) (c := c) F_Tries_words B O_on O_many
  have b_Limit_words : Binds K fd_Limit_words ["self"] [] := F_Limit_words.binds (ps := ["self"]) fun _ _ _ _ _ _ us hl => match us, hl with | [_], _ => rfl
  have g_Limit_words := okv_Limit_words (P := P) (w := w) (base := base) (c := c) F_Limit_words B O_many
  have b_Leave_words : Binds K fd_Leave_words ["self"] [] := F_Leave_words.binds (ps := ["self"]) fun _ _ _ _ _ _ us hl => match us, hl with | [_], _ => rfl
  have g_Leave_words := okv_Leave_words (P := P) (w := w) (base := base) (c := c) F_Leave_words B
  have b_Soft_words : Binds K fd_Soft_words ["self"] [] := F_Soft_words.binds (ps := ["self"]) fun _ _ _ _ _ _ us hl => match us, hl with | [_], _ => rfl
  have g_Soft_words := okv_Soft_words (P := P) (w := w) (base := base) (c := c) F_Soft_words B O_on
  have b_Count_words : Binds K fd_Count_words ["self"] [] := F_Count_words.binds (ps := ["self"]) fun _ _ _ _ _ _ us hl => match us, hl with | [_], _ => rfl
  have g_Count_words := okv_Count_words (P := P) (w := w) (base := base) (c := c) F_Count_words B
  have b_Lend_words : Binds K fd_Lend_words ["self"] [] := F_Lend_words.binds (ps := ["self"]) fun _ _ _ _ _ _ us hl => match us, hl with | [_], _ => rfl
  have g_Lend_words := okv_Lend_words (P := P) (w := w) (base := base) (c := c) F_Lend_words B
  have T_words : ∀ C vf, tb_words c C = some vf → MVd P w K mg base 1 "words" 1 C vf := (tb1 ⟨cl_Keep, _, _, _, _, by decide, mt_Keep_words, g_Keep_words, b_Keep_words⟩ (tb1 ⟨cl_Tries, _, _, _, _, by decide, mt_Tries_words, g_Tries_words, b_Tries_words⟩ (tb1 ⟨cl_Limit, _, _, _, _, by decide, mt_Limit_words, g_Limit_words, b_Limit_words⟩ (tb1 ⟨cl_Leave, _, _, _, _, by decide, mt_Leave_words, g_Leave_words, b_Leave_words⟩ (tb1 ⟨cl_Soft, _, _, _, _, by decide, mt_Soft_words, g_Soft_words, b_Soft_words⟩ (tb1 ⟨cl_Count, _, _, _, _, by decide, mt_Count_words, g_Count_words, b_Count_words⟩ (tb1 ⟨cl_Lend, _, _, _, _, by decide, mt_Lend_words, g_Lend_words, b_Lend_words⟩ tb0)))))))
  have b_Row_str : Binds K fd_Row_str ["self"] [] := F_Row_str.binds (ps := ["self"]) fun _ _ _ _ _ _ us hl => match us, hl with | [_], _ => rfl
  have g_Row_str := okv_Row_str (P := P) (w := w) (base := base) (c := c) F_Row_str B T_words
  let S_Row : DM P w K mg base 2 1 (f_Row_str c) := ⟨A_Row_str, _, _, g_Row_str, b_Row_str⟩
  have W_Row : ∀ C, ok_Row c C = true → ∃ ge, Own.OwnC K C A_Row_str ge := own_of (P := P) (w := w) (mg := mg) (base := base) (ma1 ⟨_, own_Row⟩ (ma1 ⟨_, own_Keep⟩ (ma1 ⟨_, own_Tries⟩ (ma1 ⟨_, own_Limit⟩ (ma1 ⟨_, own_Leave⟩ (ma1 ⟨_, own_Soft⟩ (ma1 ⟨_, own_Count⟩ (ma1 ⟨_, own_Lend⟩ ma0))))))))
  have b_Stack_str : Binds K fd_Stack_str ["self"] [] := F_Stack_str.binds (ps := ["self"]) fun _ _ _ _ _ _ us hl => match us, hl with | [_], _ => rfl
  have g_Stack_str := okv_Stack_str (P := P) (w := w) (base := base) (c := c) F_Stack_str B O_rows S_Row W_Row
  have b_is_sequence : Binds K fd_is_sequence ["value"] [] := F_is_sequence.binds (ps := ["value"]) fun _ _ _ _ _ _ us hl => match us, hl with | [_], _ => rfl
  have g_is_sequence := okv_is_sequence (P := P) (w := w) (base := base) (c := c) F_is_sequence B I_list I_tuple
  have D_is_sequence : DV P w K mg base "is_sequence" 1 1 (f_is_sequence c) := ⟨_, _, _, mg_of X G a_fn_is_sequence, F_is_sequence.kp, g_is_sequence, b_is_sequence⟩
  have b_rows_of : Binds K fd_rows_of ["value"] [] := F_rows_of.binds (ps := ["value"]) fun _ _ _ _ _ _ us hl => match us, hl with | [_], _ => rfl
  have g_rows_of := okv_rows_of (P := P) (w := w) (base := base) (c := c) F_rows_of B D_is_sequence I_Row M_Row
  have D_rows_of : DV P w K mg base "rows_of" 2 1 (f_rows_of c) := ⟨_, _, _, mg_of X G a_fn_rows_of, F_rows_of.kp, g_rows_of, b_rows_of⟩
  have b_is_integer : Binds K fd_is_integer ["value"] [] := F_is_integer.binds (ps := ["value"]) fun _ _ _ _ _ _ us hl => match us, hl with | [_], _ => rfl
  have g_is_integer := okv_is_integer (P := P) (w := w) (base := base) (c := c) F_is_integer B I_bool I_int
  have D_is_integer : DV P w K mg base "is_integer" 1 1 (f_is_integer c) := ⟨_, _, _, mg_of X G a_fn_is_integer, F_is_integer.kp, g_is_integer, b_is_integer⟩
  have b_is_order : Binds K fd_is_order ["value", "many"] [] := F_is_order.binds (ps := ["value", "many"]) fun _ _ _ _ _ _ us hl => match us, hl with | [_, _], _ => rfl
  have g_is_order := okv_is_order (P := P) (w := w) (base := base) (c := c) F_is_order B D_is_integer I_tuple
  have D_is_order : DV P w K mg base "is_order" 2 2 (f_is_order c) := ⟨_, _, _, mg_of X G a_fn_is_order, F_is_order.kp, g_is_order, b_is_order⟩
  have Z_InvalidOrder : MkZ P w K mg base 2 "InvalidOrder" c.InvalidOrder := mkz_of zk_InvalidOrder (mg_of X G a_InvalidOrder) (by decide) (by decide)
  have b_check_order : Binds K fd_check_order ["value", "many"] [] := F_check_order.binds (ps := ["value", "many"]) fun _ _ _ _ _ _ us hl => match us, hl with | [_, _], _ => rfl
  have g_check_order := okv_check_order (P := P) (w := w) (base := base) (c := c) F_check_order B D_is_order Z_InvalidOrder
  have D_check_order : DV P w K mg base "check_order" 3 2 (f_check_order c) := ⟨_, _, _, mg_of X G a_fn_check_order, F_check_order.kp, g_check_order, b_check_order⟩
  obtain ⟨e0_Stack_init, v0_Stack_init, b_Stack_init⟩ := F_Stack_init.binds1 (ps := ["self", "rows"]) 2 1 (List.cons_ne_nil _ _) rfl fun T kV doc pm an cdv ct us its h1 h2 => match us, its, h1, h2 with | [_, _], [_], _, _ => ⟨_, rfl, rfl⟩
  cases v0_Stack_init
  have g_Stack_init := okv_Stack_init (P := P) (w := w) (base := base) (c := c) F_Stack_init B D_rows_of O_rows
  have MI_Stack : MI P w K mg base 3 2 "Stack" c.Stack (f_Stack_init c) := ⟨_, _, _, mk_Stack, g_Stack_init, b_Stack_init, mg_of X G a_Stack⟩
  have b_stack_of : Binds K fd_stack_of ["lot", "order"] [] := F_stack_of.binds (ps := ["lot", "order"]) fun _ _ _ _ _ _ us hl => match us, hl with | [_, _], _ => rfl
  have g_stack_of := okv_stack_of (P := P) (w := w) (base := base) (c := c) F_stack_of B D_check_order D_rows_of MI_Stack
  have D_stack_of : DV P w K mg base "stack_of" 5 2 (f_stack_of c) := ⟨_, _, _, mg_of X G a_fn_stack_of, F_stack_of.kp, g_stack_of, b_stack_of⟩
  let S_Stack : DM P w K mg base 5 1 (f_Stack_str c) := ⟨A_Stack_str, _, _, g_Stack_str, b_Stack_str⟩
  have W_Stack : ∀ C, ok_Stack c C = true → ∃ ge, Own.OwnC K C A_Stack_str ge := own_of (P := P) (w := w) (mg := mg) (base := base) (ma1 ⟨_, own_Stack⟩ ma0)
  have b_heard : Binds K fd_heard ["_law_lot", "_law_value"] [] := F_heard.binds (ps := ["_law_lot", "_law_value"]) fun _ _ _ _ _ _ us hl => match us, hl with | [_, _], _ => rfl
  have g_heard := okv_heard (P := P) (w := w) (base := base) (c := c) F_heard B D_stack_of TM_InvalidOrder M_InvalidOrder S_Stack W_Stack EX_InvalidOrder KX_InvalidOrder_InvalidStack M_InvalidStack KX_InvalidOrder_WrapError M_WrapError
  have D_heard : DV P w K mg base "_law_heard" 8 2 (f_heard c) := ⟨_, _, _, mg_of X G a_fn__law_heard, F_heard.kp, g_heard, b_heard⟩
  have b_check_argument : Binds K fd_check_argument ["word", "is_right"] [] := F_check_argument.binds (ps := ["word", "is_right"]) fun _ _ _ _ _ _ us hl => match us, hl with | [_, _], _ => rfl
  have g_check_argument := okv_check_argument (P := P) (w := w) (base := base) (c := c) F_check_argument B
  have D_check_argument : DV P w K mg base "check_argument" 1 2 (f_check_argument c) := ⟨_, _, _, mg_of X G a_fn_check_argument, F_check_argument.kp, g_check_argument, b_check_argument⟩
  have b_is_one_of : Binds K fd_is_one_of ["value", "numbers"] [] := F_is_one_of.binds (ps := ["value", "numbers"]) fun _ _ _ _ _ _ us hl => match us, hl with | [_, _], _ => rfl
  have g_is_one_of := okv_is_one_of (P := P) (w := w) (base := base) (c := c) F_is_one_of B D_is_integer
  have D_is_one_of : DV P w K mg base "is_one_of" 2 2 (f_is_one_of c) := ⟨_, _, _, mg_of X G a_fn_is_one_of, F_is_one_of.kp, g_is_one_of, b_is_one_of⟩
  obtain ⟨e0_Keep_init, v0_Keep_init, b_Keep_init⟩ := F_Keep_init.binds1 (ps := ["self", "what", "life"]) 3 2 (List.cons_ne_nil _ _) rfl fun T kV doc pm an cdv ct us its h1 h2 => match us, its, h1, h2 with | [_, _, _], [_, _], _, _ => ⟨_, rfl, rfl⟩
  cases v0_Keep_init
  have g_Keep_init := okv_Keep_init (P := P) (w := w) (base := base) (c := c) F_Keep_init B D_check_argument D_is_one_of O_life O_what G_LIVES G_KEPT_ANSWERS
  obtain ⟨e0_Tries_init, v0_Tries_init, b_Tries_init⟩ := F_Tries_init.binds1 (ps := ["self", "many", "on"]) 3 1 (List.cons_ne_nil _ _) rfl fun T kV doc pm an cdv ct us its h1 h2 => match us, its, h1, h2 with | [_, _, _], [_], _, _ => ⟨_, rfl, rfl⟩
  cases v0_Tries_init
  have g_Tries_init := okv_Tries_init (P := P) (w := w) (base := base) (c := c) F_Tries_init B D_check_argument D_is_one_of O_on O_many G_FAULTS G_MOST_ASKED
  have b_Limit_init : Binds K fd_Limit_init ["self", "many"] [] := F_Limit_init.binds (ps := ["self", "many"]) fun _ _ _ _ _ _ us hl => match us, hl with | [_, _], _ => rfl
  have g_Limit_init := okv_Limit_init (P := P) (w := w) (base := base) (c := c) F_Limit_init B D_check_argument D_is_one_of O_many G_MOST_TRIES
  obtain ⟨e0_Soft_init, v0_Soft_init, b_Soft_init⟩ := F_Soft_init.binds1 (ps := ["self", "on"]) 2 1 (List.cons_ne_nil _ _) rfl fun T kV doc pm an cdv ct us its h1 h2 => match us, its, h1, h2 with | [_, _], [_], _, _ => ⟨_, rfl, rfl⟩
  cases v0_Soft_init
  have g_Soft_init := okv_Soft_init (P := P) (w := w) (base := base) (c := c) F_Soft_init B D_check_argument O_on G_FAULTS
  have MI_Soft : MI P w K mg base 2 2 "Soft" c.Soft (f_Soft_init c) := ⟨_, _, _, mk_Soft, g_Soft_init, b_Soft_init, mg_of X G a_Soft⟩
  have MI_Limit : MI P w K mg base 3 2 "Limit" c.Limit (f_Limit_init c) := ⟨_, _, _, mk_Limit, g_Limit_init, b_Limit_init, mg_of X G a_Limit⟩
  have MI_Tries : MI P w K mg base 3 3 "Tries" c.Tries (f_Tries_init c) := ⟨_, _, _, mk_Tries, g_Tries_init, b_Tries_init, mg_of X G a_Tries⟩
  have MI_Keep : MI P w K mg base 3 3 "Keep" c.Keep (f_Keep_init c) := ⟨_, _, _, mk_Keep, g_Keep_init, b_Keep_init, mg_of X G a_Keep⟩
  have b_every_row : Binds K fd_every_row [] [] := F_every_row.binds (ps := []) fun _ _ _ _ _ _ us hl => match us, hl with | [], _ => rfl
  have g_every_row := okv_every_row (P := P) (w := w) (base := base) (c := c) F_every_row B MO_Lend M_Lend MO_Count M_Count MO_Leave M_Leave G_FAULTS MI_Soft G_MOST_TRIES MI_Limit G_MOST_ASKED MI_Tries G_KEPT_ANSWERS G_LIVES MI_Keep
  have D_every_row : DV P w K mg base "every_row" 5 0 (f_every_row c) := ⟨_, _, _, mg_of X G a_fn_every_row, F_every_row.kp, g_every_row, b_every_row⟩
  have b_Row_read : Binds K fd_Row_read ["cls", "text"] [] := F_Row_read.binds (ps := ["cls", "text"]) fun _ _ _ _ _ _ us hl => match us, hl with | [_, _], _ => rfl
  have g_Row_read := okv_Row_read (P := P) (w := w) (base := base) (c := c) F_Row_read B D_every_row S_Row W_Row
  have b_row_text : Binds K fd_row_text ["_law_row_here"] [] := F_row_text.binds (ps := ["_law_row_here"]) fun _ _ _ _ _ _ us hl => match us, hl with | [_], _ => rfl
  have g_row_text := okv_row_text (P := P) (w := w) (base := base) (c := c) F_row_text B
  have D_row_text : DV P w K mg base "_law_row_text" 1 1 (f_row_text c) := ⟨_, _, _, mg_of X G a_fn__law_row_text, F_row_text.kp, g_row_text, b_row_text⟩
  have C_Row_read : CM P w K mg base 6 2 "read" c.Row (f_Row_read c) := ⟨_, _, _, _, _, cr_Row_read, cmt_Row_read, g_Row_read, b_Row_read⟩
  have b_made_rows : Binds K fd_made_rows ["_law_rows_here"] [] := F_made_rows.binds (ps := ["_law_rows_here"]) fun _ _ _ _ _ _ us hl => match us, hl with | [_], _ => rfl
  have g_made_rows := okv_made_rows (P := P) (w := w) (base := base) (c := c) F_made_rows B D_row_text C_Row_read M_Row
  have D_made_rows : DV P w K mg base "_law_made_rows" 7 1 (f_made_rows c) := ⟨_, _, _, mg_of X G a_fn__law_made_rows, F_made_rows.kp, g_made_rows, b_made_rows⟩
  have b_rows_in : Binds K fd_rows_in ["lines"] [] := F_rows_in.binds (ps := ["lines"]) fun _ _ _ _ _ _ us hl => match us, hl with | [_], _ => rfl
  have g_rows_in := okv_rows_in (P := P) (w := w) (base := base) (c := c) F_rows_in B C_Row_read M_Row
  have D_rows_in : DV P w K mg base "rows_in" 7 1 (f_rows_in c) := ⟨_, _, _, mg_of X G a_fn_rows_in, F_rows_in.kp, g_rows_in, b_rows_in⟩
  obtain ⟨e_MD_Stack_0, v_MD_Stack_0, b_MD_Stack_0⟩ := F_Stack_init.binds1 (ps := ["self", "rows"]) 2 1 (List.cons_ne_nil _ _) rfl fun T kV doc pm an cdv ct us its h1 h2 => match us, its, h1, h2 with | [_, _], [_], _, _ => ⟨_, rfl, rfl⟩
  have MD_Stack_0 : MD P w K mg base 3 2 c.Stack (f_Stack_init c) [] := ⟨_, _, _, _, _, mk_Stack, g_Stack_init, b_MD_Stack_0, v_MD_Stack_0, fun F => .nil⟩
  obtain ⟨e_MD_Stack_1, v_MD_Stack_1, b_MD_Stack_1⟩ := F_Stack_init.binds1 (ps := ["self", "rows"]) 1 0 (List.cons_ne_nil _ _) rfl fun T kV doc pm an cdv ct us its h1 h2 => match us, its, h1, h2 with | [_], [_], _, _ => ⟨_, rfl, rfl⟩
  have MD_Stack_1 : MD P w K mg base 3 2 c.Stack (f_Stack_init c) [(.tup [])] := ⟨_, _, _, _, _, mk_Stack, g_Stack_init, b_MD_Stack_1, v_MD_Stack_1, fun F => (.cons (.tup (KTup.of (xs := []) l0_Stack_init (by simp) .nil F) .nil) .nil)⟩
  have b_Stack_read : Binds K fd_Stack_read ["cls", "text"] [] := F_Stack_read.binds (ps := ["cls", "text"]) fun _ _ _ _ _ _ us hl => match us, hl with | [_, _], _ => rfl
  have g_Stack_read := okv_Stack_read (P := P) (w := w) (base := base) (c := c) F_Stack_read B D_rows_in MD_Stack_0 MD_Stack_1
  have b_text : Binds K fd_text ["_law_rows_here"] [] := F_text.binds (ps := ["_law_rows_here"]) fun _ _ _ _ _ _ us hl => match us, hl with | [_], _ => rfl
  have g_text := okv_text (P := P) (w := w) (base := base) (c := c) F_text B D_row_text
  have D_text : DV P w K mg base "_law_text" 2 1 (f_text c) := ⟨_, _, _, mg_of X G a_fn__law_text, F_text.kp, g_text, b_text⟩
  have b_Stack_eq : Binds K fd_Stack_eq ["self", "other"] [] := F_Stack_eq.binds (ps := ["self", "other"]) fun _ _ _ _ _ _ us hl => match us, hl with | [_, _], _ => rfl
  have g_Stack_eq := okv_Stack_eq (P := P) (w := w) (base := base) (c := c) F_Stack_eq B S_Stack W_Stack I_Stack M_Stack
  let Q_Stack : DM P w K mg base 8 2 (f_Stack_eq c) := ⟨A_Stack_eq, _, _, g_Stack_eq, b_Stack_eq⟩
  have WQ_Stack : EqOk K A_Stack_eq (okq_Stack c) := eqOk_of (L := [c.Stack]) (fun C y e => okq_of e) (ma1 ⟨_, own_Stack⟩ ma0) (ma1 (ma1 nf_Stack_Stack ma0) ma0) (ma1 it_Stack ma0)
  have C_Stack_read : CM P w K mg base 8 2 "read" c.Stack (f_Stack_read c) := ⟨_, _, _, _, _, cr_Stack_read, cmt_Stack_read, g_Stack_read, b_Stack_read⟩
  have b_law : Binds K fd_law ["_law_script"] [] := F_law.binds (ps := ["_law_script"]) fun _ _ _ _ _ _ us hl => match us, hl with | [_], _ => rfl
  have g_law := okv_law (P := P) (w := w) (base := base) (c := c) F_law B D_heard D_stack_of D_text D_draw D_pick D_mixed D_orders D_made_rows D_lot_rows D_source S_Stack W_Stack Q_Stack WQ_Stack C_Stack_read M_Stack
  have D_law : DV P w K mg base "law" 10 1 (f_law c) := ⟨_, _, _, mg_of X G a_fn_law, F_law.kp, g_law, b_law⟩
  exact g_law
end Vw
end
section
namespace Vw
open PySem PySem.Spec PyProof.Rows L2 Own Vs
def c0 : CS := {WrapError := 31, InvalidRow := 51, InvalidStack := 70, InvalidText := 89, InvalidOrder := 110, NoRow := 129, Row := 192, Keep := 221, Tries := 248, Limit := 274, Leave := 293, Soft := 320, Count := 339, Lend := 358, Stack := 469}

end Vw
end
section
namespace Vs
open PySem PySem.Spec PyProof.Rows L2
section
variable {s s1 : S} {m m1 m2 : List MO} {r : R} {f g : VS} {i : Nat} {a b : Sl} {t : T}
theorem st_seq (h : f s = some (.nx, s1)) (k : g s1 = r) : vSeq f g s = r := by unfold vSeq; rw [h]; exact k
theorem st_seq_rt (h : f s = some (.rt a, s1)) : vSeq f g s = some (.rt a, s1) := by unfold vSeq; rw [h]
theorem st_set {fe : VE} (h : fe s = rM a m) : vSet i fe s = some (.nx, ⟨s.ρ.set i (some a), m⟩) := by unfold vSet; rw [h]; rfl
theorem st_drop {fe : VE} (h : fe s = rM a m) : vDrop fe s = some (.nx, ⟨s.ρ, m⟩) := by unfold vDrop; rw [h]; rfl
theorem st_ret {fe : VE} (h : fe s = rM a m) : vRet fe s = some (.rt a, ⟨s.ρ, m⟩) := by unfold vRet; rw [h]; rfl
theorem st_if {c : VT} (h : c s = rM true m) (k : f ⟨s.ρ, m⟩ = r) : vIf c f g s = r := by unfold vIf; rw [h]; exact k
theorem st_ifn {c : VT} (h : c s = rM false m) (k : g ⟨s.ρ, m⟩ = r) : vIf c f g s = r := by unfold vIf; rw [h]; exact k
theorem st_loop {gt : VG} {u : T} {us : List T} {ρ1 : List (Option Sl)} (h : gt u s.ρ = some ρ1) (k : f ⟨ρ1, s.m⟩ = some (.nx, s1)) (z : vLoop gt f us s1 = r) : vLoop gt f (u :: us) s = r := by
  rw [vLoop, h]
  show (match f ⟨ρ1, s.m⟩ with | some (.nx, s2) => _ | some (.ct, s2) => _ | some (.bk, s2) => _ | x => x) = _
  rw [k]
  exact z
theorem st_for {it : VI} {gt : VG} {us : List T} (h : it s = rM us m) (k : vLoop gt f us ⟨s.ρ, m⟩ = r) : vFor it gt f s = r := by unfold vFor; rw [h]; exact k
theorem se_var (h : s.ρ[i]? = some (some a)) : vVar i s = rM a s.m := by unfold vVar; rw [h]
theorem se_c : vC t s = rM (.val t) s.m := rfl
theorem se_bin {gg : Sl → Sl → List MO → M Sl} {fa fb : VE} {z : M Sl} (h1 : fa s = rM a m1) (h2 : fb ⟨s.ρ, m1⟩ = rM b m2) (h : gg a b m2 = z) : vBin gg fa fb s = z := by unfold vBin; rw [h1]; show bM (fb _) _ = _; rw [h2]; exact h
theorem se_val {fe : VN} {ts : List T} (h : fe s = rM ts m) : vVal fe s = rM (.val (.lst ts)) m := by unfold vVal; rw [h]; rfl
theorem se_own {fe : VN} {ts : List T} (h : fe s = rM ts m) : vOwn fe s = rM (.own m.length) (m ++ [.lst ts]) := by unfold vOwn; rw [h]; rfl
theorem se_b {gg : List Sl → List MO → M Sl} {fa : VA} {ss : List Sl} {z : M Sl} (h : fa s = rM ss m) (k : gg ss m = z) : vB gg fa s = z := by unfold vB; rw [h]; exact k
theorem se_bN {gg : List Sl → List MO → M (List T)} {fa : VA} {ss : List Sl} {z : M (List T)} (h : fa s = rM ss m) (k : gg ss m = z) : vBN gg fa s = z := by unfold vBN; rw [h]; exact k
theorem se_met {gg : Sl → List Sl → List MO → M Sl} {fo : VE} {fa : VA} {ss : List Sl} {z : M Sl} (h : fo s = rM a m) (hl : isLst a m = true) (h2 : fa ⟨s.ρ, m⟩ = rM ss m1) (k : gg a ss m1 = z) : vMet gg fo fa s = z := by
  unfold vMet; rw [h]; show (if isLst a m = true then _ else _) = _; rw [if_pos hl, h2]; exact k
theorem se_call {vf : VF} {fa : VA} {ss : List Sl} {z : M Sl} (h : fa s = rM ss m) (k : callM vf ss m = z) : vCall vf fa s = z := by unfold vCall; rw [h]; exact k
theorem sa_nil : vNil s = rM [] s.m := rfl
theorem sa_cons {fe : VE} {fa : VA} {ss : List Sl} (h1 : fe s = rM a m1) (h2 : fa ⟨s.ρ, m1⟩ = rM ss m2) : vCons fe fa s = rM (a :: ss) m2 := by unfold vCons; rw [h1]; show bM (fa _) _ = _; rw [h2]; rfl
theorem sc_test {fe : VE} {c : Bool} (h : fe s = rM (.val (.bl c)) m) : vTest fe s = rM c m := by unfold vTest; rw [h]; rfl
theorem si_items {fe : VE} {z : M (List T)} (h : fe s = rM a m) (k : gSeq a m = z) : vItems fe s = z := by unfold vItems; rw [h]; exact k
theorem sd_rt {nl : Nat} {args : List Sl} (h : f ⟨args.map some ++ List.replicate (nl - args.length) none, m⟩ = some (.rt a, s1)) : vDef nl f args m = some (.ok a, cutO m.length (.ok a) s1.m) := by unfold vDef; rw [h]
theorem sd_nx {nl : Nat} {args : List Sl} (h : f ⟨args.map some ++ List.replicate (nl - args.length) none, m⟩ = some (.nx, s1)) : vDef nl f args m = some (.ok (.val .non), cutO m.length (.ok (.val .non)) s1.m) := by unfold vDef; rw [h]
end
theorem putFrom_nil0 {k : Nat} {sub : List MO} : ∀ (m : List MO) (i : Nat), putFrom [] k sub m i = m
  | [], _ => rfl
  | o :: r, i => by unfold putFrom; rw [putFrom_nil0 r (i + 1)]; rfl
theorem grow_nil0 {m : List MO} : grow m 100 [] [] = [] := rfl
theorem call_fresh0 {vf : VF} {as : List Sl} {sub m : List MO} {o : Out Sl} (ho : owns as = []) (hr : renSs [] as = some as) (h : vf as [] = some (o, sub)) : callM vf as m = some (backO [] m.length o, m ++ sub.map (backM [] m.length)) := by
  unfold callM
  rw [ho, grow_nil0]
  simp only [List.nodup_nil, if_true, hr, renMs, h]
  show (if 0 ≤ sub.length then _ else _) = _
  rw [if_pos (Nat.zero_le _)]
  unfold putAll
  rw [putFrom_nil0]
  rfl
end Vs
end
section
namespace Vs
open PySem PySem.Spec PyProof.Rows L2
section
variable {s s1 : S} {m m1 m2 m3 : List MO} {r : R} {f g : VS} {i j : Nat} {a b : Sl} {t : T} {ok : Addr → Bool} {x : Str} {C : Addr}
theorem se_if {c : VT} {fa fb : VE} {z : M Sl} (h : c s = rM true m) (k : fa ⟨s.ρ, m⟩ = z) : vIfE c fa fb s = z := by unfold vIfE; rw [h]; exact k
theorem se_ifn {c : VT} {fa fb : VE} {z : M Sl} (h : c s = rM false m) (k : fb ⟨s.ρ, m⟩ = z) : vIfE c fa fb s = z := by unfold vIfE; rw [h]; exact k
theorem sc_not {c : VT} {k : Bool} (h : c s = rM k m) : vNot c s = rM (!k) m := by unfold vNot; rw [h]; rfl
theorem sc_or {c d : VT} {z : M Bool} (h : c s = rM false m) (k : d ⟨s.ρ, m⟩ = z) : vOr c d s = z := by unfold vOr; rw [h]; exact k
theorem se_tup {fa : VA} {ss : List Sl} {ts : List T} (h : fa s = rM ss m) (e : vals ss = some ts) (z : ts.length ≤ SZ) : vTup fa s = rM (.val (.tup ts)) m := by
  unfold vTup; rw [h]; show gSeqD .tup ss m = _
  unfold gSeqD
  simp only [e]
  rw [if_pos z]
theorem dat_int (x y : Int) : gDat PyData.eqv (.val (.int x)) (.val (.int y)) m = rM (.val (.bl (decide (x = y)))) m := by
  show (if SeqAt.shaped (.int x) = true ∧ SeqAt.shaped (.int y) = true then rM (Sl.val (.bl (PyData.eqv (.int x) (.int y)))) m else none) = _
  rw [if_pos ⟨rfl, rfl⟩]
  congr 2
end
end Vs
end
section
namespace Vs
open PySem PySem.Spec PyProof.Rows L2
section
variable {α β : Type}
def runX (F : α → β → (Fl × S) ⊕ α) : List β → α → (Fl × S) ⊕ α
  | [], a => .inr a
  | t :: r, a => match F a t with
    | .inl x => .inl x
    | .inr a' => runX F r a'
def outX (St : α → S) : (Fl × S) ⊕ α → R
  | .inl x => some x
  | .inr a => some (.nx, St a)
def Turn (St : α → S) (g : VG) (b : VS) (a : α) (t : T) (r : (Fl × S) ⊕ α) : Prop := ∃ ρ1, g t (St a).ρ = some ρ1 ∧ match r with
  | .inr a' => b ⟨ρ1, (St a).m⟩ = some (.nx, St a') ∨ b ⟨ρ1, (St a).m⟩ = some (.ct, St a')
  | .inl (fl, s) => b ⟨ρ1, (St a).m⟩ = some (fl, s) ∧ ((∃ v, fl = .rt v) ∨ ∃ C fs, fl = .ex C fs)
theorem loop_run {St : α → S} {g : VG} {b : VS} (enc : β → T) (F : α → β → (Fl × S) ⊕ α) (I : α → Prop) : ∀ (xs : List β) (a : α), I a → (∀ a x, I a → x ∈ xs → Turn St g b a (enc x) (F a x) ∧ ∀ a', F a x = .inr a' → I a') →
    vLoop g b (xs.map enc) (St a) = outX St (runX F xs a)
  | [], a, _, _ => rfl
  | t :: r, a, ia, h => by
    obtain ⟨⟨ρ1, e1, e2⟩, h2⟩ := h a t ia (List.mem_cons_self ..)
    rw [List.map_cons, vLoop, e1]
    unfold runX
    cases z : F a t with
    | inl x =>
      obtain ⟨fl, s⟩ := x
      rw [z] at e2
      obtain ⟨e3, ⟨v, rfl⟩ | ⟨C, fs, rfl⟩⟩ := e2 <;> (simp only [e3]; rfl)
    | inr a' =>
      rw [z] at e2
      have ih := loop_run enc F I r a' (h2 a' z) fun a t i m => h a t i (List.mem_cons_of_mem _ m)
      rcases e2 with e3 | e3 <;> (simp only [e3]; exact ih)
theorem loop_runI {St : α → S} {g : VG} {b : VS} (enc : β → T) (F : α → β → (Fl × S) ⊕ α) (I : Nat → α → Prop) (N : Nat) : ∀ (xs : List β) (k : Nat) (a : α), I k a → k + xs.length ≤ N → (∀ k a x, k < N → I k a → x ∈ xs → Turn St g b a (enc x) (F a x) ∧ ∀ a', F a x = .inr a' → I (k + 1) a') →
    vLoop g b (xs.map enc) (St a) = outX St (runX F xs a)
  | [], k, a, _, _, _ => rfl
  | t :: r, k, a, ia, hN, h => by
    rw [List.length_cons] at hN
    obtain ⟨⟨ρ1, e1, e2⟩, h2⟩ := h k a t (by omega) ia (List.mem_cons_self ..)
    rw [List.map_cons, vLoop, e1]
    unfold runX
    cases z : F a t with
    | inl x =>
      obtain ⟨fl, s⟩ := x
      rw [z] at e2
      obtain ⟨e3, ⟨v, rfl⟩ | ⟨C, fs, rfl⟩⟩ := e2 <;> (simp only [e3]; rfl)
    | inr a' =>
      rw [z] at e2
      have ih := loop_runI enc F I N r (k + 1) a' (h2 a' z) (by omega) fun k a t q i m => h k a t q i (List.mem_cons_of_mem _ m)
      rcases e2 with e3 | e3 <;> (simp only [e3]; exact ih)
theorem runX_fold (f : α → β → α) : ∀ (xs : List β) (a : α), runX (fun a t => .inr (f a t)) xs a = (.inr (xs.foldl f a) : (Fl × S) ⊕ α)
  | [], a => rfl
  | t :: r, a => runX_fold f r (f a t)
def whX (c : α → Bool) (F : α → (Fl × S) ⊕ α) : Nat → α → Option ((Fl × S) ⊕ α)
  | 0, _ => none
  | n + 1, a => if c a = true then (match F a with
    | .inl x => some (.inl x)
    | .inr a' => whX c F n a') else some (.inr a)
theorem wh_run {St : α → S} {fc : VT} {fb : VS} {c : α → Bool} {F : α → (Fl × S) ⊕ α} (I : α → Prop) (hc : ∀ a, I a → fc (St a) = rM (c a) (St a).m)
    (hb : ∀ a, I a → c a = true → (match F a with
      | .inr a' => (fb (St a) = some (.nx, St a') ∨ fb (St a) = some (.ct, St a')) ∧ I a'
      | .inl (fl, s) => fb (St a) = some (fl, s) ∧ ((∃ v, fl = .rt v) ∨ ∃ C fs, fl = .ex C fs))) : ∀ (n : Nat) (a : α) (r : (Fl × S) ⊕ α), I a → whX c F n a = some r → vWh fc fb n (St a) = outX St r
  | 0, a, r, _, e => by cases e
  | n + 1, a, r, ia, e => by
    unfold whX at e
    rw [vWh, hc a ia]
    show (if c a = true then _ else _) = _
    by_cases h : c a = true
    · rw [if_pos h] at e ⊢
      have q := hb a ia h
      cases z : F a with
      | inl x =>
        obtain ⟨fl, s⟩ := x
        rw [z] at q e
        cases e
        obtain ⟨e3, ⟨v, rfl⟩ | ⟨C, fs, rfl⟩⟩ := q <;> (show (match fb (St a) with | some (.nx, s2) => _ | some (.ct, s2) => _ | some (.bk, s2) => _ | x => x) = _; rw [e3]; rfl)
      | inr a' =>
        rw [z] at q e
        have ih := wh_run I hc hb n a' r q.2 e
        rcases q.1 with e3 | e3 <;> (show (match fb (St a) with | some (.nx, s2) => _ | some (.ct, s2) => _ | some (.bk, s2) => _ | x => x) = _; rw [e3]; exact ih)
    · rw [if_neg h] at e ⊢
      cases e
      rfl
end
theorem coll_run {g : VG} {tt : VT} {te : VE} {ρ : List (Option Sl)} {m : List MO} {F : T → Option T} : ∀ (ts acc : List T), (∀ t ∈ ts, ∃ ρ1, g t ρ = some ρ1 ∧ (match F t with
      | some u => tt ⟨ρ1, m⟩ = rM true m ∧ te ⟨ρ1, m⟩ = rM (.val u) m
      | none => tt ⟨ρ1, m⟩ = rM false m)) →
    acc.length + ts.length ≤ SZ → vColl g tt te ρ ts m acc = rM (acc ++ ts.filterMap F) m
  | [], acc, _, _ => by rw [vColl, List.filterMap_nil, List.append_nil]
  | t :: r, acc, h, hz => by
    obtain ⟨ρ1, e, h1⟩ := h t (List.mem_cons_self ..)
    rw [List.length_cons] at hz
    cases z : F t with
    | some u =>
      rw [z] at h1
      obtain ⟨c, v⟩ := h1
      rw [vColl, e]
      simp only [c, v]
      rw [if_pos (by omega), coll_run r (acc ++ [u]) (fun t ht => h t (List.mem_cons_of_mem _ ht)) (by rw [List.length_append, List.length_singleton]; omega), List.filterMap_cons_some z, List.append_assoc]
      rfl
    | none =>
      rw [z] at h1
      rw [vColl, e]
      simp only [h1]
      rw [coll_run r acc (fun t ht => h t (List.mem_cons_of_mem _ ht)) (by omega), List.filterMap_cons_none z]
theorem comp_map {α : Type} {vs : List Nat} {it : VI} {g : VG} {te : VE} {s : S} {xs : List α} {t u : α → T} {m : List MO} (hi : it s = rM (xs.map t) m) (h : ∀ x ∈ xs, ∃ ρ1, g (t x) (wipeS s.ρ vs) = some ρ1 ∧ te ⟨ρ1, m⟩ = rM (.val (u x)) m) (hz : xs.length ≤ SZ) : vComp vs it g vYes te s = rM (xs.map u) m := by
  have go : ∀ (ys : List α) (acc : List T), (∀ x ∈ ys, ∃ ρ1, g (t x) (wipeS s.ρ vs) = some ρ1 ∧ te ⟨ρ1, m⟩ = rM (.val (u x)) m) → acc.length + ys.length ≤ SZ → vColl g vYes te (wipeS s.ρ vs) (ys.map t) m acc = rM (acc ++ ys.map u) m := by
    intro ys
    induction ys with
    | nil => intro acc _ _; simp [vColl]
    | cons y r ih =>
      intro acc h hz
      obtain ⟨ρ1, e, v⟩ := h y (List.mem_cons_self ..)
      rw [List.length_cons] at hz
      rw [List.map_cons, vColl, e]
      simp only [vYes, v]
      rw [if_pos (by omega), ih (acc ++ [u y]) (fun x hx => h x (List.mem_cons_of_mem _ hx)) (by rw [List.length_append, List.length_singleton]; omega)]
      simp
  unfold vComp
  rw [hi]
  refine (go xs [] h (by simpa using hz)).trans ?_
  rw [List.nil_append]
theorem comp_fmap {α : Type} {vs : List Nat} {it : VI} {g : VG} {tt : VT} {te : VE} {s : S} {xs : List α} {t : α → T} {u : α → Option T} {m : List MO} (hi : it s = rM (xs.map t) m) (h : ∀ x ∈ xs, ∃ ρ1, g (t x) (wipeS s.ρ vs) = some ρ1 ∧ (match u x with
      | some v => tt ⟨ρ1, m⟩ = rM true m ∧ te ⟨ρ1, m⟩ = rM (.val v) m
      | none => tt ⟨ρ1, m⟩ = rM false m)) (hz : xs.length ≤ SZ) : vComp vs it g tt te s = rM (xs.filterMap u) m := by
  have go : ∀ (ys : List α) (acc : List T), (∀ x ∈ ys, ∃ ρ1, g (t x) (wipeS s.ρ vs) = some ρ1 ∧ (match u x with
      | some v => tt ⟨ρ1, m⟩ = rM true m ∧ te ⟨ρ1, m⟩ = rM (.val v) m
      | none => tt ⟨ρ1, m⟩ = rM false m)) → acc.length + ys.length ≤ SZ → vColl g tt te (wipeS s.ρ vs) (ys.map t) m acc = rM (acc ++ ys.filterMap u) m := by
    intro ys
    induction ys with
    | nil => intro acc _ _; simp [vColl]
    | cons y r ih =>
      intro acc h hz
      obtain ⟨ρ1, e, v⟩ := h y (List.mem_cons_self ..)
      rw [List.length_cons] at hz
      rw [List.map_cons, vColl, e]
      cases z : u y with
      | some w =>
        rw [z] at v
        simp only [v.1, v.2]
        rw [if_pos (by omega), ih (acc ++ [w]) (fun x hx => h x (List.mem_cons_of_mem _ hx)) (by rw [List.length_append, List.length_singleton]; omega), List.filterMap_cons_some z]
        simp
      | none =>
        rw [z] at v
        simp only [v]
        rw [ih acc (fun x hx => h x (List.mem_cons_of_mem _ hx)) (by omega), List.filterMap_cons_none z]
  unfold vComp
  rw [hi]
  refine (go xs [] h (by simpa using hz)).trans ?_
  rw [List.nil_append]
theorem bM_ok {α β : Type} {a : α} {m : List MO} {f : α → List MO → M β} : bM (some (.ok a, m)) f = f a m := rfl
theorem bM_ex {α β : Type} {C : Addr} {fs : List (Str × T)} {m : List MO} {f : α → List MO → M β} : bM (some (.ex C fs, m)) f = some (.ex C fs, m) := rfl
theorem bS_ok {α : Type} {ρ : List (Option Sl)} {a : α} {m : List MO} {f : α → List MO → R} : bS ρ (some (.ok a, m)) f = f a m := rfl
theorem bS_ex {α : Type} {ρ : List (Option Sl)} {C : Addr} {fs : List (Str × T)} {m : List MO} {f : α → List MO → R} : bS ρ (some (.ex C fs, m)) f = some (.ex C fs, ⟨ρ, m⟩) := rfl
theorem gInt_ok {f : Int → Int → T} {i j : Int} {m : List MO} : gInt f (.val (.int i)) (.val (.int j)) m = rM (.val (f i j)) m := rfl
theorem gAdd_int {i j : Int} {m : List MO} : gAdd (.val (.int i)) (.val (.int j)) m = rM (.val (.int (i + j))) m := rfl
theorem gIsi_ok {tab : Ty → Option Bool} {s : Sl} {m : List MO} {y : Ty} {b : Bool} (h : tyS s m = some y) (k : tab y = some b) : gIsi tab s m = rM (.val (.bl b)) m := by unfold gIsi; rw [h]; simp only [k]
section
variable {c : List T → T} {a b d e f : T} {m : List MO}
theorem seqD0 : gSeqD c [] m = rM (.val (c [])) m := rfl
theorem seqD1 : gSeqD c [.val a] m = rM (.val (c [a])) m := rfl
theorem seqD2 : gSeqD c [.val a, .val b] m = rM (.val (c [a, b])) m := rfl
theorem seqD3 : gSeqD c [.val a, .val b, .val d] m = rM (.val (c [a, b, d])) m := rfl
theorem seqD4 : gSeqD c [.val a, .val b, .val d, .val e] m = rM (.val (c [a, b, d, e])) m := rfl
theorem seqD5 : gSeqD c [.val a, .val b, .val d, .val e, .val f] m = rM (.val (c [a, b, d, e, f])) m := rfl
theorem gNew0 : gNew [] m = rM [] m := rfl
theorem gNew1 : gNew [.val a] m = rM [a] m := rfl
theorem gNew2 : gNew [.val a, .val b] m = rM [a, b] m := rfl
theorem gNew3 : gNew [.val a, .val b, .val d] m = rM [a, b, d] m := rfl
theorem vgN {i : Nat} {ρ : List (Option Sl)} : vgName i a ρ = some (ρ.set i (some (.val a))) := rfl
theorem vgT {gs : List VG} {ts : List T} {ρ : List (Option Sl)} : vgTup gs (.tup ts) ρ = vgAll gs ts ρ := rfl
theorem vgA {g : VG} {gs : List VG} {ts : List T} {ρ : List (Option Sl)} : vgAll (g :: gs) (a :: ts) ρ = match g a ρ with
  | some ρ' => vgAll gs ts ρ'
  | none => none := rfl
theorem vgA0 {ρ : List (Option Sl)} : vgAll [] [] ρ = some ρ := rfl
end
section
variable {b : Bool} {ts : List T} {x : Str} {i : Int} {m : List MO}
theorem isN_non : gIsN b (.val .non) m = rM (.val (.bl (!b))) m := rfl
theorem isN_tup : gIsN b (.val (.tup ts)) m = rM (.val (.bl b)) m := rfl
theorem isN_lst : gIsN b (.val (.lst ts)) m = rM (.val (.bl b)) m := rfl
theorem isN_str : gIsN b (.val (.str x)) m = rM (.val (.bl b)) m := rfl
theorem isN_int : gIsN b (.val (.int i)) m = rM (.val (.bl b)) m := rfl
theorem isN_ins {C : Addr} {fs : List (Str × T)} : gIsN b (.val (.ins C fs)) m = rM (.val (.bl b)) m := rfl
end
theorem e_def {nl : Nat} {b : VS} {args : List Sl} {m : List MO} : vDef nl b args m = (match b ⟨args.map some ++ List.replicate (nl - args.length) none, m⟩ with
  | some (.rt r, s) => some (.ok r, cutO m.length (.ok r) s.m)
  | some (.nx, s) => some (.ok (.val .non), cutO m.length (.ok (.val .non)) s.m)
  | some (.ex C fs, s) => some (.ex C fs, cutO m.length (.ex C fs) s.m)
  | _ => none) := rfl
theorem vals_map : ∀ ts : List T, vals (ts.map Sl.val) = some ts
  | [] => rfl
  | t :: r => by rw [List.map_cons]; unfold vals; rw [vals_map r]; rfl
theorem new_map {ts : List T} {m : List MO} (h : ts.length ≤ SZ) : gNew (ts.map Sl.val) m = rM ts m := by
  unfold gNew
  rw [vals_map]
  exact if_pos h
theorem seqOf_tup {ts : List T} {m : List MO} : seqOf (.val (.tup ts)) m = some ts := rfl
theorem seqOf_lst {ts : List T} {m : List MO} : seqOf (.val (.lst ts)) m = some ts := rfl
theorem seqOf_seq {ts : List T} {m : List MO} : seqOf (.val (.seq ts)) m = some ts := rfl
theorem intsT_range : ∀ (n : Nat) (lo : Int), intsT lo n = (List.range n).map fun k : Nat => T.int (lo + k)
  | 0, lo => rfl
  | n + 1, lo => by
    rw [List.range_succ_eq_map, List.map_cons, List.map_map]
    show T.int lo :: intsT (lo + 1) n = _
    rw [intsT_range n (lo + 1)]
    congr 1
    · simp
    · apply List.map_congr_left
      intro k _
      simp only [Function.comp_apply]
      congr 1
      omega
theorem range_ok {n : Nat} {m : List MO} (h : n ≤ SZ) : gRange (.val (.int (n : Int))) m = rM ((List.range n).map fun k : Nat => T.int (k : Int)) m := by
  have hz : SZ = 1000000 := rfl
  show (if -1000000 ≤ (n : Int) ∧ (n : Int) ≤ 1000000 then rM (intsT 0 (n : Int).toNat) m else none) = _
  rw [if_pos (by omega), Int.toNat_natCast, intsT_range]
  simp
theorem cut_take {us : List T} {n : Nat} : cutT us none (some (n : Int)) = us.take n := by
  unfold cutT
  rw [HT.sIx_none, HT.sIx_nat, List.drop_zero, Nat.sub_zero]
  by_cases h : n ≤ us.length
  · rw [Nat.min_eq_left h]
  · rw [Nat.min_eq_right (by omega), List.take_of_length_le (Nat.le_refl _), List.take_of_length_le (by omega)]
theorem cut_drop {us : List T} {n : Nat} : cutT us (some (n : Int)) none = us.drop n := by
  unfold cutT
  rw [HT.sIx_nat, HT.sIx_none]
  by_cases h : n ≤ us.length
  · rw [Nat.min_eq_left h, List.take_of_length_le (by rw [List.length_drop]; omega)]
  · rw [Nat.min_eq_right (by omega), Nat.sub_self, List.take_zero, List.drop_of_length_le (by omega)]
theorem andV_t {fb : VE} {ρ : List (Option Sl)} {m : List MO} : gAndV fb ρ (.val (.bl true)) m = fb ⟨ρ, m⟩ := rfl
theorem andV_f {fb : VE} {ρ : List (Option Sl)} {m : List MO} : gAndV fb ρ (.val (.bl false)) m = rM (.val (.bl false)) m := rfl
theorem orV_t {fb : VE} {ρ : List (Option Sl)} {m : List MO} : gOrV fb ρ (.val (.bl true)) m = rM (.val (.bl true)) m := rfl
theorem orV_f {fb : VE} {ρ : List (Option Sl)} {m : List MO} : gOrV fb ρ (.val (.bl false)) m = fb ⟨ρ, m⟩ := rfl
theorem notV_b {b : Bool} {m : List MO} : gNotV (.val (.bl b)) m = rM (.val (.bl (!b))) m := rfl
section
variable {s : S} {a o : Sl} {ss : List Sl} {ts : List T} {m m1 m2 : List MO} {z : M Sl}
theorem se_m1 {g : Sl → List Sl → List MO → M Sl} {fo fe : VE} (h1 : fo s = rM o m1) (hs : isStr o = true) (h2 : fe ⟨s.ρ, m1⟩ = rM a m2) (k : g o [a] m2 = z) : vM1 g fo fe s = z := by
  unfold vM1
  rw [h1]
  show (if isStr o = true then _ else _) = _
  rw [if_pos hs, h2]
  exact k
theorem sn_lst {fa : VA} (h : fa s = rM (ts.map Sl.val) m) (l : ts.length ≤ SZ) : vLst fa s = rM ts m := by
  unfold vLst
  rw [h]
  exact new_map l
end
theorem atI_nat {α : Type} {ts : List α} {n : Nat} : atI ts (n : Int) = ts[n]? := by
  unfold atI ixN
  rw [if_pos (Int.natCast_nonneg n)]
  by_cases h : n < ts.length
  · rw [if_pos (by exact_mod_cast h)]
    rfl
  · rw [if_neg (by exact_mod_cast h)]
    rw [List.getElem?_eq_none_iff.mpr (by omega)]
    rfl
theorem ix_tup {ts : List T} {m : List MO} {n : Nat} {t : T} (h : ts[n]? = some t) : gIx (.val (.tup ts)) (.val (.int (n : Int))) m = rM (.val t) m := by
  unfold gIx
  simp only [seqOf, lstOf, atI_nat, h]
theorem ix_lst {ts : List T} {m : List MO} {n : Nat} {t : T} (h : ts[n]? = some t) : gIx (.val (.lst ts)) (.val (.int (n : Int))) m = rM (.val t) m := by
  unfold gIx
  simp only [seqOf, lstOf, atI_nat, h]
theorem app_own {ts : List T} {m : List MO} {j : Nat} {t : T} (e : m[j]? = some (.lst ts)) (h : ts.length < SZ) : gAppend (.own j) [.val t] m = rM (.val .non) (m.set j (.lst (ts ++ [t]))) := by
  unfold gAppend
  simp only [e, if_pos h]
theorem pop_own {ts : List T} {m : List MO} {j : Nat} {t : T} (e : m[j]? = some (.lst (ts ++ [t]))) : gPop (.own j) [] m = rM (.val t) (m.set j (.lst ts)) := by
  unfold gPop
  simp only [e]
  have : (ts ++ [t])[(ts ++ [t]).length - 1]? = some t := by simp
  simp only [this]
  simp
theorem ixN_k {n k : Nat} (h : k < n) : ixN n (k : Int) = some k := by
  unfold ixN
  rw [if_pos (Int.natCast_nonneg k), if_pos (by exact_mod_cast h)]
  rfl
theorem popAt_own {ts : List T} {m : List MO} {j k : Nat} {t : T} (e : m[j]? = some (.lst ts)) (h : ts[k]? = some t) (hl : ts.length ≤ SZ) : gPopAt (.own j) [.val (.int (k : Int))] m = rM (.val t) (m.set j (.lst (ts.eraseIdx k))) := by
  unfold gPopAt
  simp only [e]
  rw [if_pos hl, ixN_k (List.getElem?_eq_some_iff.mp h).1]
  simp only [h]
end Vs
end
section
namespace Vs
open PySem PySem.Spec PyProof.Rows L2
theorem e_vVar (i : Nat) (s : S) : vVar i s = (match s.ρ[i]? with
  | some (some r) => rM r s.m
  | _ => none) := rfl
theorem e_vC (t : T) (s : S) : vC t s = (rM (.val t) s.m) := rfl
def k1_vVal (f : VN) (s : S) (xx : M (List T)) : M Sl := bM xx fun ts m => rM (.val (.lst ts)) m
theorem e_vVal (f : VN) (s : S) : vVal f s = k1_vVal f s (f s) := rfl
theorem k1_vVal_ex (f : VN) (s : S) (C : Addr) (fs : List (Str × T)) (m0 : List MO) : k1_vVal f s (some (.ex C fs, m0)) = some (.ex C fs, m0) := rfl
theorem k1_vVal_ok (f : VN) (s : S) (ts : List T) (m : List MO) : k1_vVal f s (some (.ok ts, m)) = (rM (.val (.lst ts)) m) := rfl
def k1_vOwn (f : VN) (s : S) (xx : M (List T)) : M Sl := bM xx fun ts m => rM (.own m.length) (m ++ [.lst ts])
theorem e_vOwn (f : VN) (s : S) : vOwn f s = k1_vOwn f s (f s) := rfl
theorem k1_vOwn_ex (f : VN) (s : S) (C : Addr) (fs : List (Str × T)) (m0 : List MO) : k1_vOwn f s (some (.ex C fs, m0)) = some (.ex C fs, m0) := rfl
theorem k1_vOwn_ok (f : VN) (s : S) (ts : List T) (m : List MO) : k1_vOwn f s (some (.ok ts, m)) = (rM (.own m.length) (m ++ [.lst ts])) := rfl
def k1_vBin (g : Sl → Sl → List MO → M Sl) (fa fb : VE) (s : S) (xx : M Sl) : M Sl := bM xx fun a m1 => bM (fb ⟨s.ρ, m1⟩) fun b m2 => g a b m2
theorem e_vBin (g : Sl → Sl → List MO → M Sl) (fa fb : VE) (s : S) : vBin g fa fb s = k1_vBin g fa fb s (fa s) := rfl
theorem k1_vBin_ex (g : Sl → Sl → List MO → M Sl) (fa fb : VE) (s : S) (C : Addr) (fs : List (Str × T)) (m0 : List MO) : k1_vBin g fa fb s (some (.ex C fs, m0)) = some (.ex C fs, m0) := rfl

def k2_vBin (g : Sl → Sl → List MO → M Sl) (fa fb : VE) (s : S) (a : Sl) (m1 : List MO) (xx : M Sl) : M Sl := bM xx fun b m2 => g a b m2
theorem k1_vBin_ok (g : Sl → Sl → List MO → M Sl) (fa fb : VE) (s : S) (a : Sl) (m1 : List MO) : k1_vBin g fa fb s (some (.ok a, m1)) = k2_vBin g fa fb s a m1 (fb ⟨s.ρ, m1⟩) := rfl
theorem k2_vBin_ex (g : Sl → Sl → List MO → M Sl) (fa fb : VE) (s : S) (a : Sl) (m1 : List MO) (C : Addr) (fs : List (Str × T)) (m0 : List MO) : k2_vBin g fa fb s a m1 (some (.ex C fs, m0)) = some (.ex C fs, m0) := rfl
theorem k2_vBin_ok (g : Sl → Sl → List MO → M Sl) (fa fb : VE) (s : S) (a : Sl) (m1 : List MO) (b : Sl) (m2 : List MO) : k2_vBin g fa fb s a m1 (some (.ok b, m2)) = (g a b m2) := rfl
def kSeq (g : VS) : R → R
  | none => none
  | some (.nx, s') => g s'
  | some (fl, s') => some (fl, s')
theorem e_vSeq (f g : VS) (s : S) : vSeq f g s = kSeq g (f s) := rfl
theorem kSeq_nx (g : VS) (s : S) : kSeq g (some (.nx, s)) = g s := rfl
theorem kSeq_rt (g : VS) (s : S) (r : Sl) : kSeq g (some (.rt r, s)) = some (.rt r, s) := rfl
theorem kSeq_ct (g : VS) (s : S) : kSeq g (some (.ct, s)) = some (.ct, s) := rfl
theorem kSeq_bk (g : VS) (s : S) : kSeq g (some (.bk, s)) = some (.bk, s) := rfl
theorem kSeq_ex (g : VS) (s : S) (C : Addr) (fs : List (Str × T)) : kSeq g (some (.ex C fs, s)) = some (.ex C fs, s) := rfl
theorem e_vNext (s : S) : vNext  s = (some (.nx, s)) := rfl
theorem e_vBreak (s : S) : vBreak  s = (some (.bk, s)) := rfl
theorem e_vCont (s : S) : vCont  s = (some (.ct, s)) := rfl
def k1_vRet (f : VE) (s : S) (xx : M Sl) : R := bS s.ρ xx fun r m => some (.rt r, ⟨s.ρ, m⟩)
theorem e_vRet (f : VE) (s : S) : vRet f s = k1_vRet f s (f s) := rfl
theorem k1_vRet_ex (f : VE) (s : S) (C : Addr) (fs : List (Str × T)) (m0 : List MO) : k1_vRet f s (some (.ex C fs, m0)) = some (.ex C fs, ⟨s.ρ, m0⟩) := rfl
theorem k1_vRet_ok (f : VE) (s : S) (r : Sl) (m : List MO) : k1_vRet f s (some (.ok r, m)) = (some (.rt r, ⟨s.ρ, m⟩)) := rfl
def k1_vSet (i : Nat) (f : VE) (s : S) (xx : M Sl) : R := bS s.ρ xx fun r m => some (.nx, ⟨s.ρ.set i (some r), m⟩)
theorem e_vSet (i : Nat) (f : VE) (s : S) : vSet i f s = k1_vSet i f s (f s) := rfl
theorem k1_vSet_ex (i : Nat) (f : VE) (s : S) (C : Addr) (fs : List (Str × T)) (m0 : List MO) : k1_vSet i f s (some (.ex C fs, m0)) = some (.ex C fs, ⟨s.ρ, m0⟩) := rfl
theorem k1_vSet_ok (i : Nat) (f : VE) (s : S) (r : Sl) (m : List MO) : k1_vSet i f s (some (.ok r, m)) = (some (.nx, ⟨s.ρ.set i (some r), m⟩)) := rfl
def k1_vDrop (f : VE) (s : S) (xx : M Sl) : R := bS s.ρ xx fun _ m => some (.nx, ⟨s.ρ, m⟩)
theorem e_vDrop (f : VE) (s : S) : vDrop f s = k1_vDrop f s (f s) := rfl
theorem k1_vDrop_ex (f : VE) (s : S) (C : Addr) (fs : List (Str × T)) (m0 : List MO) : k1_vDrop f s (some (.ex C fs, m0)) = some (.ex C fs, ⟨s.ρ, m0⟩) := rfl
theorem k1_vDrop_ok (f : VE) (s : S) (a0_ : Sl) (m : List MO) : k1_vDrop f s (some (.ok a0_, m)) = (some (.nx, ⟨s.ρ, m⟩)) := rfl
def k1_vIf (c : VT) (f g : VS) (s : S) (xx : M Bool) : R := bS s.ρ xx fun b m => if b = true then f ⟨s.ρ, m⟩ else g ⟨s.ρ, m⟩
theorem e_vIf (c : VT) (f g : VS) (s : S) : vIf c f g s = k1_vIf c f g s (c s) := rfl
theorem k1_vIf_ex (c : VT) (f g : VS) (s : S) (C : Addr) (fs : List (Str × T)) (m0 : List MO) : k1_vIf c f g s (some (.ex C fs, m0)) = some (.ex C fs, ⟨s.ρ, m0⟩) := rfl
theorem k1_vIf_ok (c : VT) (f g : VS) (s : S) (b : Bool) (m : List MO) : k1_vIf c f g s (some (.ok b, m)) = (if b = true then f ⟨s.ρ, m⟩ else g ⟨s.ρ, m⟩) := rfl
def k1_vTest (f : VE) (s : S) (xx : M Sl) : M Bool := bM xx fun r m => match r with
  | .val (.bl b) => rM b m
  | _ => none
theorem e_vTest (f : VE) (s : S) : vTest f s = k1_vTest f s (f s) := rfl
theorem k1_vTest_ex (f : VE) (s : S) (C : Addr) (fs : List (Str × T)) (m0 : List MO) : k1_vTest f s (some (.ex C fs, m0)) = some (.ex C fs, m0) := rfl
theorem k1_vTest_ok (f : VE) (s : S) (r : Sl) (m : List MO) : k1_vTest f s (some (.ok r, m)) = (match r with
  | .val (.bl b) => rM b m
  | _ => none) := rfl
def k1_vNot (f : VT) (s : S) (xx : M Bool) : M Bool := bM xx fun b m => rM (!b) m
theorem e_vNot (f : VT) (s : S) : vNot f s = k1_vNot f s (f s) := rfl
theorem k1_vNot_ex (f : VT) (s : S) (C : Addr) (fs : List (Str × T)) (m0 : List MO) : k1_vNot f s (some (.ex C fs, m0)) = some (.ex C fs, m0) := rfl
theorem k1_vNot_ok (f : VT) (s : S) (b : Bool) (m : List MO) : k1_vNot f s (some (.ok b, m)) = (rM (!b) m) := rfl
def k1_vAnd (f g : VT) (s : S) (xx : M Bool) : M Bool := bM xx fun b m => if b = true then g ⟨s.ρ, m⟩ else rM false m
theorem e_vAnd (f g : VT) (s : S) : vAnd f g s = k1_vAnd f g s (f s) := rfl
theorem k1_vAnd_ex (f g : VT) (s : S) (C : Addr) (fs : List (Str × T)) (m0 : List MO) : k1_vAnd f g s (some (.ex C fs, m0)) = some (.ex C fs, m0) := rfl
theorem k1_vAnd_ok (f g : VT) (s : S) (b : Bool) (m : List MO) : k1_vAnd f g s (some (.ok b, m)) = (if b = true then g ⟨s.ρ, m⟩ else rM false m) := rfl
def k1_vOr (f g : VT) (s : S) (xx : M Bool) : M Bool := bM xx fun b m => if b = true then rM true m else g ⟨s.ρ, m⟩
theorem e_vOr (f g : VT) (s : S) : vOr f g s = k1_vOr f g s (f s) := rfl
theorem k1_vOr_ex (f g : VT) (s : S) (C : Addr) (fs : List (Str × T)) (m0 : List MO) : k1_vOr f g s (some (.ex C fs, m0)) = some (.ex C fs, m0) := rfl
theorem k1_vOr_ok (f g : VT) (s : S) (b : Bool) (m : List MO) : k1_vOr f g s (some (.ok b, m)) = (if b = true then rM true m else g ⟨s.ρ, m⟩) := rfl
def k1_vIfE (c : VT) (f g : VE) (s : S) (xx : M Bool) : M Sl := bM xx fun b m => if b = true then f ⟨s.ρ, m⟩ else g ⟨s.ρ, m⟩
theorem e_vIfE (c : VT) (f g : VE) (s : S) : vIfE c f g s = k1_vIfE c f g s (c s) := rfl
theorem k1_vIfE_ex (c : VT) (f g : VE) (s : S) (C : Addr) (fs : List (Str × T)) (m0 : List MO) : k1_vIfE c f g s (some (.ex C fs, m0)) = some (.ex C fs, m0) := rfl
theorem k1_vIfE_ok (c : VT) (f g : VE) (s : S) (b : Bool) (m : List MO) : k1_vIfE c f g s (some (.ok b, m)) = (if b = true then f ⟨s.ρ, m⟩ else g ⟨s.ρ, m⟩) := rfl
def k1_vItems (f : VE) (s : S) (xx : M Sl) : M (List T) := bM xx (gSeq)
theorem e_vItems (f : VE) (s : S) : vItems f s = k1_vItems f s (f s) := rfl
theorem k1_vItems_ex (f : VE) (s : S) (C : Addr) (fs : List (Str × T)) (m0 : List MO) : k1_vItems f s (some (.ex C fs, m0)) = some (.ex C fs, m0) := rfl
theorem k1_vItems_ok (f : VE) (s : S) (a0 : Sl) (m0 : List MO) : k1_vItems f s (some (.ok a0, m0)) = (gSeq) a0 m0 := rfl
def k1_vRange (f : VE) (s : S) (xx : M Sl) : M (List T) := bM xx (gRange)
theorem e_vRange (f : VE) (s : S) : vRange f s = k1_vRange f s (f s) := rfl
theorem k1_vRange_ex (f : VE) (s : S) (C : Addr) (fs : List (Str × T)) (m0 : List MO) : k1_vRange f s (some (.ex C fs, m0)) = some (.ex C fs, m0) := rfl
theorem k1_vRange_ok (f : VE) (s : S) (a0 : Sl) (m0 : List MO) : k1_vRange f s (some (.ok a0, m0)) = (gRange) a0 m0 := rfl
def k1_vRange2 (f g : VE) (s : S) (xx : M Sl) : M (List T) := bM xx fun a m1 => bM (g ⟨s.ρ, m1⟩) fun b m2 => gRange2 a b m2
theorem e_vRange2 (f g : VE) (s : S) : vRange2 f g s = k1_vRange2 f g s (f s) := rfl
theorem k1_vRange2_ex (f g : VE) (s : S) (C : Addr) (fs : List (Str × T)) (m0 : List MO) : k1_vRange2 f g s (some (.ex C fs, m0)) = some (.ex C fs, m0) := rfl

def k2_vRange2 (f g : VE) (s : S) (a : Sl) (m1 : List MO) (xx : M Sl) : M (List T) := bM xx fun b m2 => gRange2 a b m2
theorem k1_vRange2_ok (f g : VE) (s : S) (a : Sl) (m1 : List MO) : k1_vRange2 f g s (some (.ok a, m1)) = k2_vRange2 f g s a m1 (g ⟨s.ρ, m1⟩) := rfl
theorem k2_vRange2_ex (f g : VE) (s : S) (a : Sl) (m1 : List MO) (C : Addr) (fs : List (Str × T)) (m0 : List MO) : k2_vRange2 f g s a m1 (some (.ex C fs, m0)) = some (.ex C fs, m0) := rfl
theorem k2_vRange2_ok (f g : VE) (s : S) (a : Sl) (m1 : List MO) (b : Sl) (m2 : List MO) : k2_vRange2 f g s a m1 (some (.ok b, m2)) = (gRange2 a b m2) := rfl
def k1_vFor (it : VI) (g : VG) (b : VS) (s : S) (xx : M (List T)) : R := bS s.ρ xx fun ts m => vLoop g b ts ⟨s.ρ, m⟩
theorem e_vFor (it : VI) (g : VG) (b : VS) (s : S) : vFor it g b s = k1_vFor it g b s (it s) := rfl
theorem k1_vFor_ex (it : VI) (g : VG) (b : VS) (s : S) (C : Addr) (fs : List (Str × T)) (m0 : List MO) : k1_vFor it g b s (some (.ex C fs, m0)) = some (.ex C fs, ⟨s.ρ, m0⟩) := rfl
theorem k1_vFor_ok (it : VI) (g : VG) (b : VS) (s : S) (ts : List T) (m : List MO) : k1_vFor it g b s (some (.ok ts, m)) = (vLoop g b ts ⟨s.ρ, m⟩) := rfl
theorem e_vNil (s : S) : vNil  s = (rM [] s.m) := rfl
def k1_vCons (f : VE) (g : VA) (s : S) (xx : M Sl) : M (List Sl) := bM xx fun a m1 => bM (g ⟨s.ρ, m1⟩) fun as m2 => rM (a :: as) m2
theorem e_vCons (f : VE) (g : VA) (s : S) : vCons f g s = k1_vCons f g s (f s) := rfl
theorem k1_vCons_ex (f : VE) (g : VA) (s : S) (C : Addr) (fs : List (Str × T)) (m0 : List MO) : k1_vCons f g s (some (.ex C fs, m0)) = some (.ex C fs, m0) := rfl

def k2_vCons (f : VE) (g : VA) (s : S) (a : Sl) (m1 : List MO) (xx : M (List Sl)) : M (List Sl) := bM xx fun as m2 => rM (a :: as) m2
theorem k1_vCons_ok (f : VE) (g : VA) (s : S) (a : Sl) (m1 : List MO) : k1_vCons f g s (some (.ok a, m1)) = k2_vCons f g s a m1 (g ⟨s.ρ, m1⟩) := rfl
theorem k2_vCons_ex (f : VE) (g : VA) (s : S) (a : Sl) (m1 : List MO) (C : Addr) (fs : List (Str × T)) (m0 : List MO) : k2_vCons f g s a m1 (some (.ex C fs, m0)) = some (.ex C fs, m0) := rfl
theorem k2_vCons_ok (f : VE) (g : VA) (s : S) (a : Sl) (m1 : List MO) (as : List Sl) (m2 : List MO) : k2_vCons f g s a m1 (some (.ok as, m2)) = (rM (a :: as) m2) := rfl
def k1_vTup (f : VA) (s : S) (xx : M (List Sl)) : M Sl := bM xx (gSeqD .tup)
theorem e_vTup (f : VA) (s : S) : vTup f s = k1_vTup f s (f s) := rfl
theorem k1_vTup_ex (f : VA) (s : S) (C : Addr) (fs : List (Str × T)) (m0 : List MO) : k1_vTup f s (some (.ex C fs, m0)) = some (.ex C fs, m0) := rfl
theorem k1_vTup_ok (f : VA) (s : S) (a0 : List Sl) (m0 : List MO) : k1_vTup f s (some (.ok a0, m0)) = ((gSeqD .tup)) a0 m0 := rfl
def k1_vLst (f : VA) (s : S) (xx : M (List Sl)) : M (List T) := bM xx (gNew)
theorem e_vLst (f : VA) (s : S) : vLst f s = k1_vLst f s (f s) := rfl
theorem k1_vLst_ex (f : VA) (s : S) (C : Addr) (fs : List (Str × T)) (m0 : List MO) : k1_vLst f s (some (.ex C fs, m0)) = some (.ex C fs, m0) := rfl
theorem k1_vLst_ok (f : VA) (s : S) (a0 : List Sl) (m0 : List MO) : k1_vLst f s (some (.ok a0, m0)) = (gNew) a0 m0 := rfl
def k1_vMet (g : Sl → List Sl → List MO → M Sl) (fo : VE) (fa : VA) (s : S) (xx : M Sl) : M Sl := bM xx fun o m1 => if isLst o m1 = true then bM (fa ⟨s.ρ, m1⟩) fun ss m2 => g o ss m2 else none
theorem e_vMet (g : Sl → List Sl → List MO → M Sl) (fo : VE) (fa : VA) (s : S) : vMet g fo fa s = k1_vMet g fo fa s (fo s) := rfl
theorem k1_vMet_ex (g : Sl → List Sl → List MO → M Sl) (fo : VE) (fa : VA) (s : S) (C : Addr) (fs : List (Str × T)) (m0 : List MO) : k1_vMet g fo fa s (some (.ex C fs, m0)) = some (.ex C fs, m0) := rfl
theorem k1_vMet_ok (g : Sl → List Sl → List MO → M Sl) (fo : VE) (fa : VA) (s : S) (o : Sl) (m1 : List MO) : k1_vMet g fo fa s (some (.ok o, m1)) = (if isLst o m1 = true then bM (fa ⟨s.ρ, m1⟩) fun ss m2 => g o ss m2 else none) := rfl
def k1_vRetF (f : VE) (s : S) (xx : M Sl) : R := bS s.ρ xx fun r m => match r with
  | .own i => match m[i]? with
    | some (.lst ts) => some (.rt (.val (.lst ts)), ⟨s.ρ, m.set i .dead⟩)
    | _ => none
  | _ => none
theorem e_vRetF (f : VE) (s : S) : vRetF f s = k1_vRetF f s (f s) := rfl
theorem k1_vRetF_ex (f : VE) (s : S) (C : Addr) (fs : List (Str × T)) (m0 : List MO) : k1_vRetF f s (some (.ex C fs, m0)) = some (.ex C fs, ⟨s.ρ, m0⟩) := rfl
theorem k1_vRetF_ok (f : VE) (s : S) (r : Sl) (m : List MO) : k1_vRetF f s (some (.ok r, m)) = (match r with
  | .own i => match m[i]? with
    | some (.lst ts) => some (.rt (.val (.lst ts)), ⟨s.ρ, m.set i .dead⟩)
    | _ => none
  | _ => none) := rfl
def k1_vCall (vf : VF) (fa : VA) (s : S) (xx : M (List Sl)) : M Sl := bM xx fun ss m => callM vf ss m
theorem e_vCall (vf : VF) (fa : VA) (s : S) : vCall vf fa s = k1_vCall vf fa s (fa s) := rfl
theorem k1_vCall_ex (vf : VF) (fa : VA) (s : S) (C : Addr) (fs : List (Str × T)) (m0 : List MO) : k1_vCall vf fa s (some (.ex C fs, m0)) = some (.ex C fs, m0) := rfl
theorem k1_vCall_ok (vf : VF) (fa : VA) (s : S) (ss : List Sl) (m : List MO) : k1_vCall vf fa s (some (.ok ss, m)) = (callM vf ss m) := rfl
def k1_vSetG (g : VG) (f : VE) (s : S) (xx : M Sl) : R := bS s.ρ xx fun r m => match r with
  | .val t => match g t s.ρ with
    | some ρ' => some (.nx, ⟨ρ', m⟩)
    | none => none
  | _ => none
theorem e_vSetG (g : VG) (f : VE) (s : S) : vSetG g f s = k1_vSetG g f s (f s) := rfl
theorem k1_vSetG_ex (g : VG) (f : VE) (s : S) (C : Addr) (fs : List (Str × T)) (m0 : List MO) : k1_vSetG g f s (some (.ex C fs, m0)) = some (.ex C fs, ⟨s.ρ, m0⟩) := rfl
theorem k1_vSetG_ok (g : VG) (f : VE) (s : S) (r : Sl) (m : List MO) : k1_vSetG g f s (some (.ok r, m)) = (match r with
  | .val t => match g t s.ρ with
    | some ρ' => some (.nx, ⟨ρ', m⟩)
    | none => none
  | _ => none) := rfl
theorem e_vYes (s : S) : vYes  s = (rM true s.m) := rfl
def k1_vIsN (neg : Bool) (f : VE) (s : S) (xx : M Sl) : M Sl := bM xx (gIsN neg)
theorem e_vIsN (neg : Bool) (f : VE) (s : S) : vIsN neg f s = k1_vIsN neg f s (f s) := rfl
theorem k1_vIsN_ex (neg : Bool) (f : VE) (s : S) (C : Addr) (fs : List (Str × T)) (m0 : List MO) : k1_vIsN neg f s (some (.ex C fs, m0)) = some (.ex C fs, m0) := rfl
theorem k1_vIsN_ok (neg : Bool) (f : VE) (s : S) (a0 : Sl) (m0 : List MO) : k1_vIsN neg f s (some (.ok a0, m0)) = ((gIsN neg)) a0 m0 := rfl
theorem e_vNoPart (s : S) : vNoPart  s = (rM none s.m) := rfl
def k1_vPart (f : VE) (s : S) (xx : M Sl) : M (Option Int) := bM xx (gPart)
theorem e_vPart (f : VE) (s : S) : vPart f s = k1_vPart f s (f s) := rfl
theorem k1_vPart_ex (f : VE) (s : S) (C : Addr) (fs : List (Str × T)) (m0 : List MO) : k1_vPart f s (some (.ex C fs, m0)) = some (.ex C fs, m0) := rfl
theorem k1_vPart_ok (f : VE) (s : S) (a0 : Sl) (m0 : List MO) : k1_vPart f s (some (.ok a0, m0)) = (gPart) a0 m0 := rfl
def k1_vSliceL (fe : VE) (fl fh : VP) (s : S) (xx : M Sl) : M (List T) := bM xx fun a m1 => bM (fl ⟨s.ρ, m1⟩) fun lo m2 => bM (fh ⟨s.ρ, m2⟩) fun hi m3 => match lstOf a m3 with
  | some ts => if ts.length ≤ SZ then rM (cutT ts lo hi) m3 else none
  | none => match a with
    | .val (.seq ts) => if ts.length ≤ SZ then rM (cutT ts lo hi) m3 else none
    | _ => none
theorem e_vSliceL (fe : VE) (fl fh : VP) (s : S) : vSliceL fe fl fh s = k1_vSliceL fe fl fh s (fe s) := rfl
theorem k1_vSliceL_ex (fe : VE) (fl fh : VP) (s : S) (C : Addr) (fs : List (Str × T)) (m0 : List MO) : k1_vSliceL fe fl fh s (some (.ex C fs, m0)) = some (.ex C fs, m0) := rfl

def k2_vSliceL (fe : VE) (fl fh : VP) (s : S) (a : Sl) (m1 : List MO) (xx : M (Option Int)) : M (List T) := bM xx fun lo m2 => bM (fh ⟨s.ρ, m2⟩) fun hi m3 => match lstOf a m3 with
  | some ts => if ts.length ≤ SZ then rM (cutT ts lo hi) m3 else none
  | none => match a with
    | .val (.seq ts) => if ts.length ≤ SZ then rM (cutT ts lo hi) m3 else none
    | _ => none
theorem k1_vSliceL_ok (fe : VE) (fl fh : VP) (s : S) (a : Sl) (m1 : List MO) : k1_vSliceL fe fl fh s (some (.ok a, m1)) = k2_vSliceL fe fl fh s a m1 (fl ⟨s.ρ, m1⟩) := rfl
theorem k2_vSliceL_ex (fe : VE) (fl fh : VP) (s : S) (a : Sl) (m1 : List MO) (C : Addr) (fs : List (Str × T)) (m0 : List MO) : k2_vSliceL fe fl fh s a m1 (some (.ex C fs, m0)) = some (.ex C fs, m0) := rfl
def k3_vSliceL (fe : VE) (fl fh : VP) (s : S) (a : Sl) (m1 : List MO) (lo : Option Int) (m2 : List MO) (xx : M (Option Int)) : M (List T) := bM xx fun hi m3 => match lstOf a m3 with
  | some ts => if ts.length ≤ SZ then rM (cutT ts lo hi) m3 else none
  | none => match a with
    | .val (.seq ts) => if ts.length ≤ SZ then rM (cutT ts lo hi) m3 else none
    | _ => none
theorem k2_vSliceL_ok (fe : VE) (fl fh : VP) (s : S) (a : Sl) (m1 : List MO) (lo : Option Int) (m2 : List MO) : k2_vSliceL fe fl fh s a m1 (some (.ok lo, m2)) = k3_vSliceL fe fl fh s a m1 lo m2 (fh ⟨s.ρ, m2⟩) := rfl
theorem k3_vSliceL_ok (fe : VE) (fl fh : VP) (s : S) (a : Sl) (m1 : List MO) (lo : Option Int) (m2 : List MO) (hi : Option Int) (m3 : List MO) : k3_vSliceL fe fl fh s a m1 lo m2 (some (.ok hi, m3)) = (match lstOf a m3 with
  | some ts => if ts.length ≤ SZ then rM (cutT ts lo hi) m3 else none
  | none => match a with
    | .val (.seq ts) => if ts.length ≤ SZ then rM (cutT ts lo hi) m3 else none
    | _ => none) := rfl
def k1_vSliceV (fe : VE) (fl fh : VP) (s : S) (xx : M Sl) : M Sl := bM xx fun a m1 => bM (fl ⟨s.ρ, m1⟩) fun lo m2 => bM (fh ⟨s.ρ, m2⟩) fun hi m3 => match a with
  | .val (.tup ts) => rM (.val (.tup (cutT ts lo hi))) m3
  | .val (.str z) => if z.length ≤ SZ then rM (.val (.str (cutS z lo hi))) m3 else none
  | _ => none
theorem e_vSliceV (fe : VE) (fl fh : VP) (s : S) : vSliceV fe fl fh s = k1_vSliceV fe fl fh s (fe s) := rfl
theorem k1_vSliceV_ex (fe : VE) (fl fh : VP) (s : S) (C : Addr) (fs : List (Str × T)) (m0 : List MO) : k1_vSliceV fe fl fh s (some (.ex C fs, m0)) = some (.ex C fs, m0) := rfl

def k2_vSliceV (fe : VE) (fl fh : VP) (s : S) (a : Sl) (m1 : List MO) (xx : M (Option Int)) : M Sl := bM xx fun lo m2 => bM (fh ⟨s.ρ, m2⟩) fun hi m3 => match a with
  | .val (.tup ts) => rM (.val (.tup (cutT ts lo hi))) m3
  | .val (.str z) => if z.length ≤ SZ then rM (.val (.str (cutS z lo hi))) m3 else none
  | _ => none
theorem k1_vSliceV_ok (fe : VE) (fl fh : VP) (s : S) (a : Sl) (m1 : List MO) : k1_vSliceV fe fl fh s (some (.ok a, m1)) = k2_vSliceV fe fl fh s a m1 (fl ⟨s.ρ, m1⟩) := rfl
theorem k2_vSliceV_ex (fe : VE) (fl fh : VP) (s : S) (a : Sl) (m1 : List MO) (C : Addr) (fs : List (Str × T)) (m0 : List MO) : k2_vSliceV fe fl fh s a m1 (some (.ex C fs, m0)) = some (.ex C fs, m0) := rfl
def k3_vSliceV (fe : VE) (fl fh : VP) (s : S) (a : Sl) (m1 : List MO) (lo : Option Int) (m2 : List MO) (xx : M (Option Int)) : M Sl := bM xx fun hi m3 => match a with
  | .val (.tup ts) => rM (.val (.tup (cutT ts lo hi))) m3
  | .val (.str z) => if z.length ≤ SZ then rM (.val (.str (cutS z lo hi))) m3 else none
  | _ => none
theorem k2_vSliceV_ok (fe : VE) (fl fh : VP) (s : S) (a : Sl) (m1 : List MO) (lo : Option Int) (m2 : List MO) : k2_vSliceV fe fl fh s a m1 (some (.ok lo, m2)) = k3_vSliceV fe fl fh s a m1 lo m2 (fh ⟨s.ρ, m2⟩) := rfl
theorem k3_vSliceV_ok (fe : VE) (fl fh : VP) (s : S) (a : Sl) (m1 : List MO) (lo : Option Int) (m2 : List MO) (hi : Option Int) (m3 : List MO) : k3_vSliceV fe fl fh s a m1 lo m2 (some (.ok hi, m3)) = (match a with
  | .val (.tup ts) => rM (.val (.tup (cutT ts lo hi))) m3
  | .val (.str z) => if z.length ≤ SZ then rM (.val (.str (cutS z lo hi))) m3 else none
  | _ => none) := rfl
def k1_vB (g : List Sl → List MO → M Sl) (f : VA) (s : S) (xx : M (List Sl)) : M Sl := bM xx (g)
theorem e_vB (g : List Sl → List MO → M Sl) (f : VA) (s : S) : vB g f s = k1_vB g f s (f s) := rfl
theorem k1_vB_ex (g : List Sl → List MO → M Sl) (f : VA) (s : S) (C : Addr) (fs : List (Str × T)) (m0 : List MO) : k1_vB g f s (some (.ex C fs, m0)) = some (.ex C fs, m0) := rfl
theorem k1_vB_ok (g : List Sl → List MO → M Sl) (f : VA) (s : S) (a0 : List Sl) (m0 : List MO) : k1_vB g f s (some (.ok a0, m0)) = (g) a0 m0 := rfl
def k1_vMet0 (g : Sl → List Sl → List MO → M Sl) (fo : VE) (s : S) (xx : M Sl) : M Sl := bM xx fun o m1 => if isLst o m1 = true then g o [] m1 else none
theorem e_vMet0 (g : Sl → List Sl → List MO → M Sl) (fo : VE) (s : S) : vMet0 g fo s = k1_vMet0 g fo s (fo s) := rfl
theorem k1_vMet0_ex (g : Sl → List Sl → List MO → M Sl) (fo : VE) (s : S) (C : Addr) (fs : List (Str × T)) (m0 : List MO) : k1_vMet0 g fo s (some (.ex C fs, m0)) = some (.ex C fs, m0) := rfl
theorem k1_vMet0_ok (g : Sl → List Sl → List MO → M Sl) (fo : VE) (s : S) (o : Sl) (m1 : List MO) : k1_vMet0 g fo s (some (.ok o, m1)) = (if isLst o m1 = true then g o [] m1 else none) := rfl
def k1_vPut (fd fk fv : VE) (s : S) (xx : M Sl) : R := bS s.ρ xx fun v m1 => bS s.ρ (fd ⟨s.ρ, m1⟩) fun d m2 => bS s.ρ (fk ⟨s.ρ, m2⟩) fun k m3 => gPut s.ρ v d k m3
theorem e_vPut (fd fk fv : VE) (s : S) : vPut fd fk fv s = k1_vPut fd fk fv s (fv s) := rfl
theorem k1_vPut_ex (fd fk fv : VE) (s : S) (C : Addr) (fs : List (Str × T)) (m0 : List MO) : k1_vPut fd fk fv s (some (.ex C fs, m0)) = some (.ex C fs, ⟨s.ρ, m0⟩) := rfl

def k2_vPut (fd fk fv : VE) (s : S) (v : Sl) (m1 : List MO) (xx : M Sl) : R := bS s.ρ xx fun d m2 => bS s.ρ (fk ⟨s.ρ, m2⟩) fun k m3 => gPut s.ρ v d k m3
theorem k1_vPut_ok (fd fk fv : VE) (s : S) (v : Sl) (m1 : List MO) : k1_vPut fd fk fv s (some (.ok v, m1)) = k2_vPut fd fk fv s v m1 (fd ⟨s.ρ, m1⟩) := rfl
theorem k2_vPut_ex (fd fk fv : VE) (s : S) (v : Sl) (m1 : List MO) (C : Addr) (fs : List (Str × T)) (m0 : List MO) : k2_vPut fd fk fv s v m1 (some (.ex C fs, m0)) = some (.ex C fs, ⟨s.ρ, m0⟩) := rfl
def k3_vPut (fd fk fv : VE) (s : S) (v : Sl) (m1 : List MO) (d : Sl) (m2 : List MO) (xx : M Sl) : R := bS s.ρ xx fun k m3 => gPut s.ρ v d k m3
theorem k2_vPut_ok (fd fk fv : VE) (s : S) (v : Sl) (m1 : List MO) (d : Sl) (m2 : List MO) : k2_vPut fd fk fv s v m1 (some (.ok d, m2)) = k3_vPut fd fk fv s v m1 d m2 (fk ⟨s.ρ, m2⟩) := rfl
theorem k3_vPut_ok (fd fk fv : VE) (s : S) (v : Sl) (m1 : List MO) (d : Sl) (m2 : List MO) (k : Sl) (m3 : List MO) : k3_vPut fd fk fv s v m1 d m2 (some (.ok k, m3)) = (gPut s.ρ v d k m3) := rfl
theorem e_vFrz (i : Nat) (f : VS) (s : S) : vFrz i f s = (f (frz i s)) := rfl
def k1_vEnum (f : VA) (s : S) (xx : M (List Sl)) : M (List T) := bM xx (gEnumL)
theorem e_vEnum (f : VA) (s : S) : vEnum f s = k1_vEnum f s (f s) := rfl
theorem k1_vEnum_ex (f : VA) (s : S) (C : Addr) (fs : List (Str × T)) (m0 : List MO) : k1_vEnum f s (some (.ex C fs, m0)) = some (.ex C fs, m0) := rfl
theorem k1_vEnum_ok (f : VA) (s : S) (a0 : List Sl) (m0 : List MO) : k1_vEnum f s (some (.ok a0, m0)) = (gEnumL) a0 m0 := rfl
def k1_vZip (f : VA) (s : S) (xx : M (List Sl)) : M (List T) := bM xx (gZipL)
theorem e_vZip (f : VA) (s : S) : vZip f s = k1_vZip f s (f s) := rfl
theorem k1_vZip_ex (f : VA) (s : S) (C : Addr) (fs : List (Str × T)) (m0 : List MO) : k1_vZip f s (some (.ex C fs, m0)) = some (.ex C fs, m0) := rfl
theorem k1_vZip_ok (f : VA) (s : S) (a0 : List Sl) (m0 : List MO) : k1_vZip f s (some (.ok a0, m0)) = (gZipL) a0 m0 := rfl
def k1_vListRg (f : VE) (s : S) (xx : M Sl) : M (List T) := bM xx (gListRg)
theorem e_vListRg (f : VE) (s : S) : vListRg f s = k1_vListRg f s (f s) := rfl
theorem k1_vListRg_ex (f : VE) (s : S) (C : Addr) (fs : List (Str × T)) (m0 : List MO) : k1_vListRg f s (some (.ex C fs, m0)) = some (.ex C fs, m0) := rfl
theorem k1_vListRg_ok (f : VE) (s : S) (a0 : Sl) (m0 : List MO) : k1_vListRg f s (some (.ok a0, m0)) = (gListRg) a0 m0 := rfl
def k1_vFld (ok : Addr → Bool) (f : Str) (fe : VE) (s : S) (xx : M Sl) : M Sl := bM xx (gFld ok f)
theorem e_vFld (ok : Addr → Bool) (f : Str) (fe : VE) (s : S) : vFld ok f fe s = k1_vFld ok f fe s (fe s) := rfl
theorem k1_vFld_ex (ok : Addr → Bool) (f : Str) (fe : VE) (s : S) (C : Addr) (fs : List (Str × T)) (m0 : List MO) : k1_vFld ok f fe s (some (.ex C fs, m0)) = some (.ex C fs, m0) := rfl
theorem k1_vFld_ok (ok : Addr → Bool) (f : Str) (fe : VE) (s : S) (a0 : Sl) (m0 : List MO) : k1_vFld ok f fe s (some (.ok a0, m0)) = ((gFld ok f)) a0 m0 := rfl
def k1_vSetF (ok : Addr → Bool) (f : Str) (fo fv : VE) (s : S) (xx : M Sl) : R := bS s.ρ xx fun v m1 => bS s.ρ (fo ⟨s.ρ, m1⟩) fun o m2 => gSetF ok f s.ρ v o m2
theorem e_vSetF (ok : Addr → Bool) (f : Str) (fo fv : VE) (s : S) : vSetF ok f fo fv s = k1_vSetF ok f fo fv s (fv s) := rfl
theorem k1_vSetF_ex (ok : Addr → Bool) (f : Str) (fo fv : VE) (s : S) (C : Addr) (fs : List (Str × T)) (m0 : List MO) : k1_vSetF ok f fo fv s (some (.ex C fs, m0)) = some (.ex C fs, ⟨s.ρ, m0⟩) := rfl

def k2_vSetF (ok : Addr → Bool) (f : Str) (fo fv : VE) (s : S) (v : Sl) (m1 : List MO) (xx : M Sl) : R := bS s.ρ xx fun o m2 => gSetF ok f s.ρ v o m2
theorem k1_vSetF_ok (ok : Addr → Bool) (f : Str) (fo fv : VE) (s : S) (v : Sl) (m1 : List MO) : k1_vSetF ok f fo fv s (some (.ok v, m1)) = k2_vSetF ok f fo fv s v m1 (fo ⟨s.ρ, m1⟩) := rfl
theorem k2_vSetF_ex (ok : Addr → Bool) (f : Str) (fo fv : VE) (s : S) (v : Sl) (m1 : List MO) (C : Addr) (fs : List (Str × T)) (m0 : List MO) : k2_vSetF ok f fo fv s v m1 (some (.ex C fs, m0)) = some (.ex C fs, ⟨s.ρ, m0⟩) := rfl
theorem k2_vSetF_ok (ok : Addr → Bool) (f : Str) (fo fv : VE) (s : S) (v : Sl) (m1 : List MO) (o : Sl) (m2 : List MO) : k2_vSetF ok f fo fv s v m1 (some (.ok o, m2)) = (gSetF ok f s.ρ v o m2) := rfl
def k1_vMethD (tb : Addr → Option VF) (m : Str) (fo : VE) (fa : VA) (s : S) (xx : M Sl) : M Sl := bM xx fun o m1 => match insOf o m1 with
  | some (C, ns) => if m ∉ ns then match tb C with
    | some vf => bM (fa ⟨s.ρ, m1⟩) fun ss m2 => callM vf (o :: ss) m2
    | none => none
    else none
  | none => none
theorem k1_vMethD_ex (tb : Addr → Option VF) (m : Str) (fo : VE) (fa : VA) (s : S) (C : Addr) (fs : List (Str × T)) (m0 : List MO) : k1_vMethD tb m fo fa s (some (.ex C fs, m0)) = some (.ex C fs, m0) := rfl
def k1_vMake (C : Addr) (vf : VF) (fa : VA) (s : S) (xx : M (List Sl)) : M Sl := bM xx fun ss m1 => bM (callM vf (.own m1.length :: ss) (m1 ++ [.ins C []])) fun r m2 => match r with
  | .val .non => rM (.own m1.length) m2
  | _ => none
theorem e_vMake (C : Addr) (vf : VF) (fa : VA) (s : S) : vMake C vf fa s = k1_vMake C vf fa s (fa s) := rfl
theorem k1_vMake_ex (C : Addr) (vf : VF) (fa : VA) (s : S) (C : Addr) (fs : List (Str × T)) (m0 : List MO) : k1_vMake C vf fa s (some (.ex C fs, m0)) = some (.ex C fs, m0) := rfl
theorem k1_vMake_ok (C : Addr) (vf : VF) (fa : VA) (s : S) (ss : List Sl) (m1 : List MO) : k1_vMake C vf fa s (some (.ok ss, m1)) = (bM (callM vf (.own m1.length :: ss) (m1 ++ [.ins C []])) fun r m2 => match r with
  | .val .non => rM (.own m1.length) m2
  | _ => none) := rfl
def k1_vIns (f : VE) (s : S) (xx : M Sl) : M Sl := bM xx (gIns)
theorem e_vIns (f : VE) (s : S) : vIns f s = k1_vIns f s (f s) := rfl
theorem k1_vIns_ex (f : VE) (s : S) (C : Addr) (fs : List (Str × T)) (m0 : List MO) : k1_vIns f s (some (.ex C fs, m0)) = some (.ex C fs, m0) := rfl
theorem k1_vIns_ok (f : VE) (s : S) (a0 : Sl) (m0 : List MO) : k1_vIns f s (some (.ok a0, m0)) = (gIns) a0 m0 := rfl
def k1_vRev (f : VE) (s : S) (xx : M Sl) : M (List T) := bM xx (gRev)
theorem e_vRev (f : VE) (s : S) : vRev f s = k1_vRev f s (f s) := rfl
theorem k1_vRev_ex (f : VE) (s : S) (C : Addr) (fs : List (Str × T)) (m0 : List MO) : k1_vRev f s (some (.ex C fs, m0)) = some (.ex C fs, m0) := rfl
theorem k1_vRev_ok (f : VE) (s : S) (a0 : Sl) (m0 : List MO) : k1_vRev f s (some (.ok a0, m0)) = (gRev) a0 m0 := rfl
def k1_vPar (i j : Nat) (f : VA) (s : S) (xx : M (List Sl)) : R := bS s.ρ xx (gPar i j s.ρ)
theorem e_vPar (i j : Nat) (f : VA) (s : S) : vPar i j f s = k1_vPar i j f s (f s) := rfl
theorem k1_vPar_ex (i j : Nat) (f : VA) (s : S) (C : Addr) (fs : List (Str × T)) (m0 : List MO) : k1_vPar i j f s (some (.ex C fs, m0)) = some (.ex C fs, ⟨s.ρ, m0⟩) := rfl
theorem k1_vPar_ok (i j : Nat) (f : VA) (s : S) (a0 : List Sl) (m0 : List MO) : k1_vPar i j f s (some (.ok a0, m0)) = ((gPar i j s.ρ)) a0 m0 := rfl
def k1_vMetS (g : Sl → List Sl → List MO → M Sl) (fo : VE) (fa : VA) (s : S) (xx : M Sl) : M Sl := bM xx fun o m1 => if isStr o = true then bM (fa ⟨s.ρ, m1⟩) fun ss m2 => g o ss m2 else none
theorem e_vMetS (g : Sl → List Sl → List MO → M Sl) (fo : VE) (fa : VA) (s : S) : vMetS g fo fa s = k1_vMetS g fo fa s (fo s) := rfl
theorem k1_vMetS_ex (g : Sl → List Sl → List MO → M Sl) (fo : VE) (fa : VA) (s : S) (C : Addr) (fs : List (Str × T)) (m0 : List MO) : k1_vMetS g fo fa s (some (.ex C fs, m0)) = some (.ex C fs, m0) := rfl
theorem k1_vMetS_ok (g : Sl → List Sl → List MO → M Sl) (fo : VE) (fa : VA) (s : S) (o : Sl) (m1 : List MO) : k1_vMetS g fo fa s (some (.ok o, m1)) = (if isStr o = true then bM (fa ⟨s.ρ, m1⟩) fun ss m2 => g o ss m2 else none) := rfl
def k1_vM1 (g : Sl → List Sl → List MO → M Sl) (fo fe : VE) (s : S) (xx : M Sl) : M Sl := bM xx fun o m1 => if isStr o = true then bM (fe ⟨s.ρ, m1⟩) fun a m2 => g o [a] m2 else none
theorem e_vM1 (g : Sl → List Sl → List MO → M Sl) (fo fe : VE) (s : S) : vM1 g fo fe s = k1_vM1 g fo fe s (fo s) := rfl
theorem k1_vM1_ex (g : Sl → List Sl → List MO → M Sl) (fo fe : VE) (s : S) (C : Addr) (fs : List (Str × T)) (m0 : List MO) : k1_vM1 g fo fe s (some (.ex C fs, m0)) = some (.ex C fs, m0) := rfl
theorem k1_vM1_ok (g : Sl → List Sl → List MO → M Sl) (fo fe : VE) (s : S) (o : Sl) (m1 : List MO) : k1_vM1 g fo fe s (some (.ok o, m1)) = (if isStr o = true then bM (fe ⟨s.ρ, m1⟩) fun a m2 => g o [a] m2 else none) := rfl
def k1_vAndV (fa fb : VE) (s : S) (xx : M Sl) : M Sl := bM xx (gAndV fb s.ρ)
theorem e_vAndV (fa fb : VE) (s : S) : vAndV fa fb s = k1_vAndV fa fb s (fa s) := rfl
theorem k1_vAndV_ex (fa fb : VE) (s : S) (C : Addr) (fs : List (Str × T)) (m0 : List MO) : k1_vAndV fa fb s (some (.ex C fs, m0)) = some (.ex C fs, m0) := rfl
theorem k1_vAndV_ok (fa fb : VE) (s : S) (a0 : Sl) (m0 : List MO) : k1_vAndV fa fb s (some (.ok a0, m0)) = ((gAndV fb s.ρ)) a0 m0 := rfl
def k1_vOrV (fa fb : VE) (s : S) (xx : M Sl) : M Sl := bM xx (gOrV fb s.ρ)
theorem e_vOrV (fa fb : VE) (s : S) : vOrV fa fb s = k1_vOrV fa fb s (fa s) := rfl
theorem k1_vOrV_ex (fa fb : VE) (s : S) (C : Addr) (fs : List (Str × T)) (m0 : List MO) : k1_vOrV fa fb s (some (.ex C fs, m0)) = some (.ex C fs, m0) := rfl
theorem k1_vOrV_ok (fa fb : VE) (s : S) (a0 : Sl) (m0 : List MO) : k1_vOrV fa fb s (some (.ok a0, m0)) = ((gOrV fb s.ρ)) a0 m0 := rfl
def k1_vNotV (fa : VE) (s : S) (xx : M Sl) : M Sl := bM xx (gNotV)
theorem e_vNotV (fa : VE) (s : S) : vNotV fa s = k1_vNotV fa s (fa s) := rfl
theorem k1_vNotV_ex (fa : VE) (s : S) (C : Addr) (fs : List (Str × T)) (m0 : List MO) : k1_vNotV fa s (some (.ex C fs, m0)) = some (.ex C fs, m0) := rfl
theorem k1_vNotV_ok (fa : VE) (s : S) (a0 : Sl) (m0 : List MO) : k1_vNotV fa s (some (.ok a0, m0)) = (gNotV) a0 m0 := rfl
def k1_vIsi (tab : Ty → Option Bool) (f : VE) (s : S) (xx : M Sl) : M Sl := bM xx (gIsi tab)
theorem e_vIsi (tab : Ty → Option Bool) (f : VE) (s : S) : vIsi tab f s = k1_vIsi tab f s (f s) := rfl
theorem k1_vIsi_ex (tab : Ty → Option Bool) (f : VE) (s : S) (C : Addr) (fs : List (Str × T)) (m0 : List MO) : k1_vIsi tab f s (some (.ex C fs, m0)) = some (.ex C fs, m0) := rfl
theorem k1_vIsi_ok (tab : Ty → Option Bool) (f : VE) (s : S) (a0 : Sl) (m0 : List MO) : k1_vIsi tab f s (some (.ok a0, m0)) = ((gIsi tab)) a0 m0 := rfl
def k1_vChain (g1 g2 : Sl → Sl → List MO → M Sl) (fa fb fc : VE) (s : S) (xx : M Sl) : M Sl := bM xx fun x m1 => bM (fb ⟨s.ρ, m1⟩) fun y m2 => gChain g1 g2 fc s.ρ x y m2
theorem e_vChain (g1 g2 : Sl → Sl → List MO → M Sl) (fa fb fc : VE) (s : S) : vChain g1 g2 fa fb fc s = k1_vChain g1 g2 fa fb fc s (fa s) := rfl
theorem k1_vChain_ex (g1 g2 : Sl → Sl → List MO → M Sl) (fa fb fc : VE) (s : S) (C : Addr) (fs : List (Str × T)) (m0 : List MO) : k1_vChain g1 g2 fa fb fc s (some (.ex C fs, m0)) = some (.ex C fs, m0) := rfl

def k2_vChain (g1 g2 : Sl → Sl → List MO → M Sl) (fa fb fc : VE) (s : S) (x : Sl) (m1 : List MO) (xx : M Sl) : M Sl := bM xx fun y m2 => gChain g1 g2 fc s.ρ x y m2
theorem k1_vChain_ok (g1 g2 : Sl → Sl → List MO → M Sl) (fa fb fc : VE) (s : S) (x : Sl) (m1 : List MO) : k1_vChain g1 g2 fa fb fc s (some (.ok x, m1)) = k2_vChain g1 g2 fa fb fc s x m1 (fb ⟨s.ρ, m1⟩) := rfl
theorem k2_vChain_ex (g1 g2 : Sl → Sl → List MO → M Sl) (fa fb fc : VE) (s : S) (x : Sl) (m1 : List MO) (C : Addr) (fs : List (Str × T)) (m0 : List MO) : k2_vChain g1 g2 fa fb fc s x m1 (some (.ex C fs, m0)) = some (.ex C fs, m0) := rfl
theorem k2_vChain_ok (g1 g2 : Sl → Sl → List MO → M Sl) (fa fb fc : VE) (s : S) (x : Sl) (m1 : List MO) (y : Sl) (m2 : List MO) : k2_vChain g1 g2 fa fb fc s x m1 (some (.ok y, m2)) = (gChain g1 g2 fc s.ρ x y m2) := rfl
def k1_vStar (f : VE) (g : VA) (s : S) (xx : M Sl) : M (List Sl) := bM xx fun a m1 => match seqOf a m1 with
  | some ts => bM (g ⟨s.ρ, m1⟩) fun ss m2 => rM (ts.map .val ++ ss) m2
  | none => none
theorem e_vStar (f : VE) (g : VA) (s : S) : vStar f g s = k1_vStar f g s (f s) := rfl
theorem k1_vStar_ex (f : VE) (g : VA) (s : S) (C : Addr) (fs : List (Str × T)) (m0 : List MO) : k1_vStar f g s (some (.ex C fs, m0)) = some (.ex C fs, m0) := rfl
theorem k1_vStar_ok (f : VE) (g : VA) (s : S) (a : Sl) (m1 : List MO) : k1_vStar f g s (some (.ok a, m1)) = (match seqOf a m1 with
  | some ts => bM (g ⟨s.ρ, m1⟩) fun ss m2 => rM (ts.map .val ++ ss) m2
  | none => none) := rfl
theorem e_vMakeO (C : Addr) (s : S) : vMakeO C s = (rM (.own s.m.length) (s.m ++ [.ins C []])) := rfl
def k1_vCMeth (C : Addr) (vf : VF) (fa : VA) (s : S) (xx : M (List Sl)) : M Sl := bM xx fun ss m => callM vf (.val (.cst (.ref C)) :: ss) m
theorem e_vCMeth (C : Addr) (vf : VF) (fa : VA) (s : S) : vCMeth C vf fa s = k1_vCMeth C vf fa s (fa s) := rfl
theorem k1_vCMeth_ex (C : Addr) (vf : VF) (fa : VA) (s : S) (C : Addr) (fs : List (Str × T)) (m0 : List MO) : k1_vCMeth C vf fa s (some (.ex C fs, m0)) = some (.ex C fs, m0) := rfl
theorem k1_vCMeth_ok (C : Addr) (vf : VF) (fa : VA) (s : S) (ss : List Sl) (m : List MO) : k1_vCMeth C vf fa s (some (.ok ss, m)) = (callM vf (.val (.cst (.ref C)) :: ss) m) := rfl
def k1_vMakeD (C : Addr) (vf : VF) (dts : List T) (fa : VA) (s : S) (xx : M (List Sl)) : M Sl := bM xx fun ss m1 => bM (callM vf (.own m1.length :: (ss ++ dts.map .val)) (m1 ++ [.ins C []])) fun r m2 => match r with
  | .val .non => rM (.own m1.length) m2
  | _ => none
theorem e_vMakeD (C : Addr) (vf : VF) (dts : List T) (fa : VA) (s : S) : vMakeD C vf dts fa s = k1_vMakeD C vf dts fa s (fa s) := rfl
theorem k1_vMakeD_ex (C : Addr) (vf : VF) (dts : List T) (fa : VA) (s : S) (C : Addr) (fs : List (Str × T)) (m0 : List MO) : k1_vMakeD C vf dts fa s (some (.ex C fs, m0)) = some (.ex C fs, m0) := rfl
theorem k1_vMakeD_ok (C : Addr) (vf : VF) (dts : List T) (fa : VA) (s : S) (ss : List Sl) (m1 : List MO) : k1_vMakeD C vf dts fa s (some (.ok ss, m1)) = (bM (callM vf (.own m1.length :: (ss ++ dts.map .val)) (m1 ++ [.ins C []])) fun r m2 => match r with
  | .val .non => rM (.own m1.length) m2
  | _ => none) := rfl
theorem e_vAtC (i : Nat) (C : Addr) (f : VE) (s : S) : vAtC i C f s = (match s.ρ[i]? with
  | some (some (.val (.cst (.ref D)))) => if D = C then f s else none
  | _ => none) := rfl
def k1_vSplit (fo fe : VE) (s : S) (xx : M Sl) : M (List T) := bM xx fun o m1 => if isStr o = true then bM (fe ⟨s.ρ, m1⟩) fun a m2 => gSplit o a m2 else none
theorem e_vSplit (fo fe : VE) (s : S) : vSplit fo fe s = k1_vSplit fo fe s (fo s) := rfl
theorem k1_vSplit_ex (fo fe : VE) (s : S) (C : Addr) (fs : List (Str × T)) (m0 : List MO) : k1_vSplit fo fe s (some (.ex C fs, m0)) = some (.ex C fs, m0) := rfl
theorem k1_vSplit_ok (fo fe : VE) (s : S) (o : Sl) (m1 : List MO) : k1_vSplit fo fe s (some (.ok o, m1)) = (if isStr o = true then bM (fe ⟨s.ρ, m1⟩) fun a m2 => gSplit o a m2 else none) := rfl
theorem e_vNoEx (fb : VS) (s : S) : vNoEx fb s = (match fb s with
  | some (.ex _ _, _) => none
  | x => x) := rfl
theorem e_vRaise0 (C : Addr) (s : S) : vRaise0 C s = (some (.ex C [], s)) := rfl
theorem e_vHas (i : Nat) (g : VS) (s : S) : vHas i g s = (match s.ρ[i]? with
  | some (some (.val (.int _))) => g s
  | _ => none) := rfl
def k1_vSetI (fo fi fv : VE) (s : S) (xx : M Sl) : R := bS s.ρ xx fun v m1 => bS s.ρ (fo ⟨s.ρ, m1⟩) fun o m2 => bS s.ρ (fi ⟨s.ρ, m2⟩) fun k m3 => gSetI s.ρ v o k m3
theorem e_vSetI (fo fi fv : VE) (s : S) : vSetI fo fi fv s = k1_vSetI fo fi fv s (fv s) := rfl
theorem k1_vSetI_ex (fo fi fv : VE) (s : S) (C : Addr) (fs : List (Str × T)) (m0 : List MO) : k1_vSetI fo fi fv s (some (.ex C fs, m0)) = some (.ex C fs, ⟨s.ρ, m0⟩) := rfl

def k2_vSetI (fo fi fv : VE) (s : S) (v : Sl) (m1 : List MO) (xx : M Sl) : R := bS s.ρ xx fun o m2 => bS s.ρ (fi ⟨s.ρ, m2⟩) fun k m3 => gSetI s.ρ v o k m3
theorem k1_vSetI_ok (fo fi fv : VE) (s : S) (v : Sl) (m1 : List MO) : k1_vSetI fo fi fv s (some (.ok v, m1)) = k2_vSetI fo fi fv s v m1 (fo ⟨s.ρ, m1⟩) := rfl
theorem k2_vSetI_ex (fo fi fv : VE) (s : S) (v : Sl) (m1 : List MO) (C : Addr) (fs : List (Str × T)) (m0 : List MO) : k2_vSetI fo fi fv s v m1 (some (.ex C fs, m0)) = some (.ex C fs, ⟨s.ρ, m0⟩) := rfl
def k3_vSetI (fo fi fv : VE) (s : S) (v : Sl) (m1 : List MO) (o : Sl) (m2 : List MO) (xx : M Sl) : R := bS s.ρ xx fun k m3 => gSetI s.ρ v o k m3
theorem k2_vSetI_ok (fo fi fv : VE) (s : S) (v : Sl) (m1 : List MO) (o : Sl) (m2 : List MO) : k2_vSetI fo fi fv s v m1 (some (.ok o, m2)) = k3_vSetI fo fi fv s v m1 o m2 (fi ⟨s.ρ, m2⟩) := rfl
theorem k3_vSetI_ok (fo fi fv : VE) (s : S) (v : Sl) (m1 : List MO) (o : Sl) (m2 : List MO) (k : Sl) (m3 : List MO) : k3_vSetI fo fi fv s v m1 o m2 (some (.ok k, m3)) = (gSetI s.ρ v o k m3) := rfl
def k1_vAugF (ok : Addr → Bool) (f : Str) (fo fv : VE) (s : S) (xx : M Sl) : R := bS s.ρ xx fun o m1 => match intFld ok f o m1 with
  | some (i, C, a) => bS s.ρ (fv ⟨s.ρ, m1⟩) fun y m2 => gAugF s.ρ f i C a y m2
  | none => none
theorem e_vAugF (ok : Addr → Bool) (f : Str) (fo fv : VE) (s : S) : vAugF ok f fo fv s = k1_vAugF ok f fo fv s (fo s) := rfl
theorem k1_vAugF_ex (ok : Addr → Bool) (f : Str) (fo fv : VE) (s : S) (C : Addr) (fs : List (Str × T)) (m0 : List MO) : k1_vAugF ok f fo fv s (some (.ex C fs, m0)) = some (.ex C fs, ⟨s.ρ, m0⟩) := rfl
theorem k1_vAugF_ok (ok : Addr → Bool) (f : Str) (fo fv : VE) (s : S) (o : Sl) (m1 : List MO) : k1_vAugF ok f fo fv s (some (.ok o, m1)) = (match intFld ok f o m1 with
  | some (i, C, a) => bS s.ρ (fv ⟨s.ρ, m1⟩) fun y m2 => gAugF s.ρ f i C a y m2
  | none => none) := rfl
def k1_vInsD (f : VE) (s : S) (xx : M Sl) : M Sl := bM xx (gInsD)
theorem e_vInsD (f : VE) (s : S) : vInsD f s = k1_vInsD f s (f s) := rfl
theorem k1_vInsD_ex (f : VE) (s : S) (C : Addr) (fs : List (Str × T)) (m0 : List MO) : k1_vInsD f s (some (.ex C fs, m0)) = some (.ex C fs, m0) := rfl
theorem k1_vInsD_ok (f : VE) (s : S) (a0 : Sl) (m0 : List MO) : k1_vInsD f s (some (.ok a0, m0)) = (gInsD) a0 m0 := rfl
def k1_vForO (f : VE) (g : VG) (b : VS) (s : S) (xx : M Sl) : R := bS s.ρ xx fun o m => gForO g b s.ρ o m
theorem e_vForO (f : VE) (g : VG) (b : VS) (s : S) : vForO f g b s = k1_vForO f g b s (f s) := rfl
theorem k1_vForO_ex (f : VE) (g : VG) (b : VS) (s : S) (C : Addr) (fs : List (Str × T)) (m0 : List MO) : k1_vForO f g b s (some (.ex C fs, m0)) = some (.ex C fs, ⟨s.ρ, m0⟩) := rfl
theorem k1_vForO_ok (f : VE) (g : VG) (b : VS) (s : S) (o : Sl) (m : List MO) : k1_vForO f g b s (some (.ok o, m)) = (gForO g b s.ρ o m) := rfl
def k1_vAugI (fo fi fv : VE) (s : S) (xx : M Sl) : R := bS s.ρ xx fun o m1 => bS s.ρ (fi ⟨s.ρ, m1⟩) fun k m2 => match lstAt o k m2 with
  | some (j, p, a) => bS s.ρ (fv ⟨s.ρ, m2⟩) fun y m3 => gAugI s.ρ j p a y m3
  | none => none
theorem e_vAugI (fo fi fv : VE) (s : S) : vAugI fo fi fv s = k1_vAugI fo fi fv s (fo s) := rfl
theorem k1_vAugI_ex (fo fi fv : VE) (s : S) (C : Addr) (fs : List (Str × T)) (m0 : List MO) : k1_vAugI fo fi fv s (some (.ex C fs, m0)) = some (.ex C fs, ⟨s.ρ, m0⟩) := rfl

def k2_vAugI (fo fi fv : VE) (s : S) (o : Sl) (m1 : List MO) (xx : M Sl) : R := bS s.ρ xx fun k m2 => match lstAt o k m2 with
  | some (j, p, a) => bS s.ρ (fv ⟨s.ρ, m2⟩) fun y m3 => gAugI s.ρ j p a y m3
  | none => none
theorem k1_vAugI_ok (fo fi fv : VE) (s : S) (o : Sl) (m1 : List MO) : k1_vAugI fo fi fv s (some (.ok o, m1)) = k2_vAugI fo fi fv s o m1 (fi ⟨s.ρ, m1⟩) := rfl
theorem k2_vAugI_ex (fo fi fv : VE) (s : S) (o : Sl) (m1 : List MO) (C : Addr) (fs : List (Str × T)) (m0 : List MO) : k2_vAugI fo fi fv s o m1 (some (.ex C fs, m0)) = some (.ex C fs, ⟨s.ρ, m0⟩) := rfl
theorem k2_vAugI_ok (fo fi fv : VE) (s : S) (o : Sl) (m1 : List MO) (k : Sl) (m2 : List MO) : k2_vAugI fo fi fv s o m1 (some (.ok k, m2)) = (match lstAt o k m2 with
  | some (j, p, a) => bS s.ρ (fv ⟨s.ρ, m2⟩) fun y m3 => gAugI s.ρ j p a y m3
  | none => none) := rfl
def k1_vKd (tab : Str → Option T) (f : VE) (s : S) (xx : M Sl) : M Sl := bM xx (gKd tab)
theorem e_vKd (tab : Str → Option T) (f : VE) (s : S) : vKd tab f s = k1_vKd tab f s (f s) := rfl
theorem k1_vKd_ex (tab : Str → Option T) (f : VE) (s : S) (C : Addr) (fs : List (Str × T)) (m0 : List MO) : k1_vKd tab f s (some (.ex C fs, m0)) = some (.ex C fs, m0) := rfl
theorem k1_vKd_ok (tab : Str → Option T) (f : VE) (s : S) (a0 : Sl) (m0 : List MO) : k1_vKd tab f s (some (.ok a0, m0)) = ((gKd tab)) a0 m0 := rfl
def k1_vKi (neg : Bool) (tab : Str → Option Bool) (f : VE) (s : S) (xx : M Sl) : M Sl := bM xx (gKi neg tab)
theorem e_vKi (neg : Bool) (tab : Str → Option Bool) (f : VE) (s : S) : vKi neg tab f s = k1_vKi neg tab f s (f s) := rfl
theorem k1_vKi_ex (neg : Bool) (tab : Str → Option Bool) (f : VE) (s : S) (C : Addr) (fs : List (Str × T)) (m0 : List MO) : k1_vKi neg tab f s (some (.ex C fs, m0)) = some (.ex C fs, m0) := rfl
theorem k1_vKi_ok (neg : Bool) (tab : Str → Option Bool) (f : VE) (s : S) (a0 : Sl) (m0 : List MO) : k1_vKi neg tab f s (some (.ok a0, m0)) = ((gKi neg tab)) a0 m0 := rfl
theorem e_vCallT (i : Nat) (tb : Addr → Option VF) (fa : VA) (s : S) : vCallT i tb fa s = (match s.ρ[i]? with
  | some (some (.val (.cst (.ref f)))) => match tb f with
    | some vf => bM (fa s) fun ss m => callM vf ss m
    | none => none
  | _ => none) := rfl
def k1_vStar1 (i j : Nat) (f : VE) (s : S) (xx : M Sl) : R := bS s.ρ xx (gStar1 i j s.ρ)
theorem e_vStar1 (i j : Nat) (f : VE) (s : S) : vStar1 i j f s = k1_vStar1 i j f s (f s) := rfl
theorem k1_vStar1_ex (i j : Nat) (f : VE) (s : S) (C : Addr) (fs : List (Str × T)) (m0 : List MO) : k1_vStar1 i j f s (some (.ex C fs, m0)) = some (.ex C fs, ⟨s.ρ, m0⟩) := rfl
theorem k1_vStar1_ok (i j : Nat) (f : VE) (s : S) (a0 : Sl) (m0 : List MO) : k1_vStar1 i j f s (some (.ok a0, m0)) = ((gStar1 i j s.ρ)) a0 m0 := rfl
def k1_vNSet (fo fi fv : VE) (s : S) (xx : M Sl) : R := bS s.ρ xx fun v m1 => bS s.ρ (fo ⟨s.ρ, m1⟩) fun o m2 => bS s.ρ (fi ⟨s.ρ, m2⟩) fun k m3 => gNSet s.ρ v o k m3
theorem e_vNSet (fo fi fv : VE) (s : S) : vNSet fo fi fv s = k1_vNSet fo fi fv s (fv s) := rfl
theorem k1_vNSet_ex (fo fi fv : VE) (s : S) (C : Addr) (fs : List (Str × T)) (m0 : List MO) : k1_vNSet fo fi fv s (some (.ex C fs, m0)) = some (.ex C fs, ⟨s.ρ, m0⟩) := rfl

def k2_vNSet (fo fi fv : VE) (s : S) (v : Sl) (m1 : List MO) (xx : M Sl) : R := bS s.ρ xx fun o m2 => bS s.ρ (fi ⟨s.ρ, m2⟩) fun k m3 => gNSet s.ρ v o k m3
theorem k1_vNSet_ok (fo fi fv : VE) (s : S) (v : Sl) (m1 : List MO) : k1_vNSet fo fi fv s (some (.ok v, m1)) = k2_vNSet fo fi fv s v m1 (fo ⟨s.ρ, m1⟩) := rfl
theorem k2_vNSet_ex (fo fi fv : VE) (s : S) (v : Sl) (m1 : List MO) (C : Addr) (fs : List (Str × T)) (m0 : List MO) : k2_vNSet fo fi fv s v m1 (some (.ex C fs, m0)) = some (.ex C fs, ⟨s.ρ, m0⟩) := rfl
def k3_vNSet (fo fi fv : VE) (s : S) (v : Sl) (m1 : List MO) (o : Sl) (m2 : List MO) (xx : M Sl) : R := bS s.ρ xx fun k m3 => gNSet s.ρ v o k m3
theorem k2_vNSet_ok (fo fi fv : VE) (s : S) (v : Sl) (m1 : List MO) (o : Sl) (m2 : List MO) : k2_vNSet fo fi fv s v m1 (some (.ok o, m2)) = k3_vNSet fo fi fv s v m1 o m2 (fi ⟨s.ρ, m2⟩) := rfl
theorem k3_vNSet_ok (fo fi fv : VE) (s : S) (v : Sl) (m1 : List MO) (o : Sl) (m2 : List MO) (k : Sl) (m3 : List MO) : k3_vNSet fo fi fv s v m1 o m2 (some (.ok k, m3)) = (gNSet s.ρ v o k m3) := rfl
def k1_vTruth (f : VE) (s : S) (xx : M Sl) : M Bool := bM xx fun r m => match gTru r m with
  | some b => rM b m
  | none => none
theorem e_vTruth (f : VE) (s : S) : vTruth f s = k1_vTruth f s (f s) := rfl
theorem k1_vTruth_ex (f : VE) (s : S) (C : Addr) (fs : List (Str × T)) (m0 : List MO) : k1_vTruth f s (some (.ex C fs, m0)) = some (.ex C fs, m0) := rfl
theorem k1_vTruth_ok (f : VE) (s : S) (r : Sl) (m : List MO) : k1_vTruth f s (some (.ok r, m)) = (match gTru r m with
  | some b => rM b m
  | none => none) := rfl
def k1_vProp (C : Addr) (vf : VF) (fo : VE) (s : S) (xx : M Sl) : M Sl := bM xx fun o m1 => match insOf o m1 with
  | some (D, _) => if D = C then okOf (callM vf [o] m1) else none
  | none => none
theorem e_vProp (C : Addr) (vf : VF) (fo : VE) (s : S) : vProp C vf fo s = k1_vProp C vf fo s (fo s) := rfl
theorem k1_vProp_ex (C : Addr) (vf : VF) (fo : VE) (s : S) (C : Addr) (fs : List (Str × T)) (m0 : List MO) : k1_vProp C vf fo s (some (.ex C fs, m0)) = some (.ex C fs, m0) := rfl
theorem k1_vProp_ok (C : Addr) (vf : VF) (fo : VE) (s : S) (o : Sl) (m1 : List MO) : k1_vProp C vf fo s (some (.ok o, m1)) = (match insOf o m1 with
  | some (D, _) => if D = C then okOf (callM vf [o] m1) else none
  | none => none) := rfl
def k1_vLstO (f : VA) (s : S) (xx : M (List Sl)) : M Sl := bM xx fun ss m => if ss.length ≤ SZ then rM (.own m.length) (m ++ [.lsO ss]) else none
theorem e_vLstO (f : VA) (s : S) : vLstO f s = k1_vLstO f s (f s) := rfl
theorem k1_vLstO_ex (f : VA) (s : S) (C : Addr) (fs : List (Str × T)) (m0 : List MO) : k1_vLstO f s (some (.ex C fs, m0)) = some (.ex C fs, m0) := rfl
theorem k1_vLstO_ok (f : VA) (s : S) (ss : List Sl) (m : List MO) : k1_vLstO f s (some (.ok ss, m)) = (if ss.length ≤ SZ then rM (.own m.length) (m ++ [.lsO ss]) else none) := rfl
def k1_vSetO (fo fi fv : VE) (s : S) (xx : M Sl) : R := bS s.ρ xx fun v m1 => bS s.ρ (fo ⟨s.ρ, m1⟩) fun o m2 => bS s.ρ (fi ⟨s.ρ, m2⟩) fun k m3 => gSetO s.ρ v o k m3
theorem e_vSetO (fo fi fv : VE) (s : S) : vSetO fo fi fv s = k1_vSetO fo fi fv s (fv s) := rfl
theorem k1_vSetO_ex (fo fi fv : VE) (s : S) (C : Addr) (fs : List (Str × T)) (m0 : List MO) : k1_vSetO fo fi fv s (some (.ex C fs, m0)) = some (.ex C fs, ⟨s.ρ, m0⟩) := rfl

def k2_vSetO (fo fi fv : VE) (s : S) (v : Sl) (m1 : List MO) (xx : M Sl) : R := bS s.ρ xx fun o m2 => bS s.ρ (fi ⟨s.ρ, m2⟩) fun k m3 => gSetO s.ρ v o k m3
theorem k1_vSetO_ok (fo fi fv : VE) (s : S) (v : Sl) (m1 : List MO) : k1_vSetO fo fi fv s (some (.ok v, m1)) = k2_vSetO fo fi fv s v m1 (fo ⟨s.ρ, m1⟩) := rfl
theorem k2_vSetO_ex (fo fi fv : VE) (s : S) (v : Sl) (m1 : List MO) (C : Addr) (fs : List (Str × T)) (m0 : List MO) : k2_vSetO fo fi fv s v m1 (some (.ex C fs, m0)) = some (.ex C fs, ⟨s.ρ, m0⟩) := rfl
def k3_vSetO (fo fi fv : VE) (s : S) (v : Sl) (m1 : List MO) (o : Sl) (m2 : List MO) (xx : M Sl) : R := bS s.ρ xx fun k m3 => gSetO s.ρ v o k m3
theorem k2_vSetO_ok (fo fi fv : VE) (s : S) (v : Sl) (m1 : List MO) (o : Sl) (m2 : List MO) : k2_vSetO fo fi fv s v m1 (some (.ok o, m2)) = k3_vSetO fo fi fv s v m1 o m2 (fi ⟨s.ρ, m2⟩) := rfl
theorem k3_vSetO_ok (fo fi fv : VE) (s : S) (v : Sl) (m1 : List MO) (o : Sl) (m2 : List MO) (k : Sl) (m3 : List MO) : k3_vSetO fo fi fv s v m1 o m2 (some (.ok k, m3)) = (gSetO s.ρ v o k m3) := rfl
def kCutE (k : Nat) : M Sl → M Sl
  | some (o, m') => some (o, cutO k o m')
  | none => none
theorem e_vCutE (f : VE) (s : S) : vCutE f s = kCutE s.m.length (f s) := by
  unfold vCutE kCutE
  rcases f s with _ | ⟨o, m'⟩ <;> rfl
theorem kCutE_ok (k : Nat) (o : Out Sl) (m : List MO) : kCutE k (some (o, m)) = some (o, cutO k o m) := rfl
def kBody (L : List Nat) (k : Nat) : R → R
  | some (.nx, s') => some (.nx, cutSt k ⟨Vs.wipe L s'.ρ, s'.m⟩)
  | some (.ct, s') => some (.ct, cutSt k ⟨Vs.wipe L s'.ρ, s'.m⟩)
  | r => r
theorem e_vBody (L : List Nat) (f : VS) (s : S) : vBody L f s = kBody L s.m.length (f s) := by
  unfold vBody kBody
  rcases f s with _ | ⟨fl, s'⟩
  · rfl
  · cases fl <;> rfl
theorem kBody_nx (L : List Nat) (k : Nat) (s : S) : kBody L k (some (.nx, s)) = some (.nx, cutSt k ⟨Vs.wipe L s.ρ, s.m⟩) := rfl
theorem kBody_ct (L : List Nat) (k : Nat) (s : S) : kBody L k (some (.ct, s)) = some (.ct, cutSt k ⟨Vs.wipe L s.ρ, s.m⟩) := rfl
theorem kBody_bk (L : List Nat) (k : Nat) (s : S) : kBody L k (some (.bk, s)) = some (.bk, s) := rfl
theorem kBody_rt (L : List Nat) (k : Nat) (s : S) (r : Sl) : kBody L k (some (.rt r, s)) = some (.rt r, s) := rfl
theorem kBody_ex (L : List Nat) (k : Nat) (s : S) (C : Addr) (fs : List (Str × T)) : kBody L k (some (.ex C fs, s)) = some (.ex C fs, s) := rfl
theorem e_vPre (L : List Nat) (f : VS) (s : S) : vPre L f s = (f ⟨wipe L s.ρ, s.m⟩) := rfl
def k1_vKeysD (f : VE) (s : S) (xx : M Sl) : M (List T) := bM xx (gKeysD)
theorem e_vKeysD (f : VE) (s : S) : vKeysD f s = k1_vKeysD f s (f s) := rfl
theorem k1_vKeysD_ex (f : VE) (s : S) (C : Addr) (fs : List (Str × T)) (m0 : List MO) : k1_vKeysD f s (some (.ex C fs, m0)) = some (.ex C fs, m0) := rfl
theorem k1_vKeysD_ok (f : VE) (s : S) (a0 : Sl) (m0 : List MO) : k1_vKeysD f s (some (.ok a0, m0)) = (gKeysD) a0 m0 := rfl
theorem e_vFrzD (i : Nat) (f : VS) (s : S) : vFrzD i f s = (f (frzD i s)) := rfl
def k1_vCallK (ix : List Nat) (vf : VF) (fa : VA) (s : S) (xx : M (List Sl)) : M Sl := bM xx fun ss m => callM (noEx vf) (permS ix ss) m
theorem e_vCallK (ix : List Nat) (vf : VF) (fa : VA) (s : S) : vCallK ix vf fa s = k1_vCallK ix vf fa s (fa s) := rfl
theorem k1_vCallK_ex (ix : List Nat) (vf : VF) (fa : VA) (s : S) (C : Addr) (fs : List (Str × T)) (m0 : List MO) : k1_vCallK ix vf fa s (some (.ex C fs, m0)) = some (.ex C fs, m0) := rfl
theorem k1_vCallK_ok (ix : List Nat) (vf : VF) (fa : VA) (s : S) (ss : List Sl) (m : List MO) : k1_vCallK ix vf fa s (some (.ok ss, m)) = (callM (noEx vf) (permS ix ss) m) := rfl
def k1_vIndex (fo fe : VE) (s : S) (xx : M Sl) : M Sl := bM xx fun o m1 => if (seqI o m1).isSome = true then bM (fe ⟨s.ρ, m1⟩) fun a m2 => gIndex o a m2 else none
theorem e_vIndex (fo fe : VE) (s : S) : vIndex fo fe s = k1_vIndex fo fe s (fo s) := rfl
theorem k1_vIndex_ex (fo fe : VE) (s : S) (C : Addr) (fs : List (Str × T)) (m0 : List MO) : k1_vIndex fo fe s (some (.ex C fs, m0)) = some (.ex C fs, m0) := rfl
theorem k1_vIndex_ok (fo fe : VE) (s : S) (o : Sl) (m1 : List MO) : k1_vIndex fo fe s (some (.ok o, m1)) = (if (seqI o m1).isSome = true then bM (fe ⟨s.ρ, m1⟩) fun a m2 => gIndex o a m2 else none) := rfl
def k1_vFmt (f : VE) (s : S) (xx : M Sl) : M Sl := bM xx (gFmt)
theorem e_vFmt (f : VE) (s : S) : vFmt f s = k1_vFmt f s (f s) := rfl
theorem k1_vFmt_ex (f : VE) (s : S) (C : Addr) (fs : List (Str × T)) (m0 : List MO) : k1_vFmt f s (some (.ex C fs, m0)) = some (.ex C fs, m0) := rfl
theorem k1_vFmt_ok (f : VE) (s : S) (a0 : Sl) (m0 : List MO) : k1_vFmt f s (some (.ok a0, m0)) = (gFmt) a0 m0 := rfl
theorem e_vJoined (fs : List VE) (s : S) : vJoined fs s = (bM (vJs fs Str.empty s) fun z m => rM (.val (.str z)) m) := rfl
def k1_vPar3 (i j l : Nat) (f : VA) (s : S) (xx : M (List Sl)) : R := bS s.ρ xx (gPar3 i j l s.ρ)
theorem e_vPar3 (i j l : Nat) (f : VA) (s : S) : vPar3 i j l f s = k1_vPar3 i j l f s (f s) := rfl
theorem k1_vPar3_ex (i j l : Nat) (f : VA) (s : S) (C : Addr) (fs : List (Str × T)) (m0 : List MO) : k1_vPar3 i j l f s (some (.ex C fs, m0)) = some (.ex C fs, ⟨s.ρ, m0⟩) := rfl
theorem k1_vPar3_ok (i j l : Nat) (f : VA) (s : S) (a0 : List Sl) (m0 : List MO) : k1_vPar3 i j l f s (some (.ok a0, m0)) = ((gPar3 i j l s.ρ)) a0 m0 := rfl
def k1_vZipA (f : VA) (s : S) (xx : M (List Sl)) : M (List T) := bM xx (gZipA)
theorem e_vZipA (f : VA) (s : S) : vZipA f s = k1_vZipA f s (f s) := rfl
theorem k1_vZipA_ex (f : VA) (s : S) (C : Addr) (fs : List (Str × T)) (m0 : List MO) : k1_vZipA f s (some (.ex C fs, m0)) = some (.ex C fs, m0) := rfl
theorem k1_vZipA_ok (f : VA) (s : S) (a0 : List Sl) (m0 : List MO) : k1_vZipA f s (some (.ok a0, m0)) = (gZipA) a0 m0 := rfl
def k1_vMinK (fe f1 : VE) (s : S) (xx : M Sl) : M Sl := bM xx (gMinK (lamF fe (capS s.ρ)))
theorem e_vMinK (fe f1 : VE) (s : S) : vMinK fe f1 s = k1_vMinK fe f1 s (f1 s) := rfl
theorem k1_vMinK_ex (fe f1 : VE) (s : S) (C : Addr) (fs : List (Str × T)) (m0 : List MO) : k1_vMinK fe f1 s (some (.ex C fs, m0)) = some (.ex C fs, m0) := rfl
theorem k1_vMinK_ok (fe f1 : VE) (s : S) (a0 : Sl) (m0 : List MO) : k1_vMinK fe f1 s (some (.ok a0, m0)) = ((gMinK (lamF fe (capS s.ρ)))) a0 m0 := rfl
theorem e_vCallF (i : Nat) (fl : Addr) (vf : VF) (fa : VA) (s : S) : vCallF i fl vf fa s = (match s.ρ[i]? with
  | some (some (.val (.cst (.ref f)))) => if f = fl then bM (fa s) fun ss m => callM vf ss m else none
  | _ => none) := rfl
theorem e_vLam0 (vfG : Addr → VF → VF) (fe : VE) (s : S) : vLam0 vfG fe s = (callM (vfG 0 (lamF fe (capS s.ρ))) [cst0] s.m) := rfl
def k1_vLam1 (vfG : Addr → VF → VF) (fe f1 : VE) (s : S) (xx : M Sl) : M Sl := bM xx fun a m1 => callM (vfG 0 (lamF fe (capS s.ρ))) [a, cst0] m1
theorem e_vLam1 (vfG : Addr → VF → VF) (fe f1 : VE) (s : S) : vLam1 vfG fe f1 s = k1_vLam1 vfG fe f1 s (f1 s) := rfl
theorem k1_vLam1_ex (vfG : Addr → VF → VF) (fe f1 : VE) (s : S) (C : Addr) (fs : List (Str × T)) (m0 : List MO) : k1_vLam1 vfG fe f1 s (some (.ex C fs, m0)) = some (.ex C fs, m0) := rfl
theorem k1_vLam1_ok (vfG : Addr → VF → VF) (fe f1 : VE) (s : S) (a : Sl) (m1 : List MO) : k1_vLam1 vfG fe f1 s (some (.ok a, m1)) = (callM (vfG 0 (lamF fe (capS s.ρ))) [a, cst0] m1) := rfl
def k1_vLam2 (vfG : Addr → VF → VF) (fe f1 f2 : VE) (s : S) (xx : M Sl) : M Sl := bM xx fun a m1 => bM (f2 ⟨s.ρ, m1⟩) fun b m2 => callM (vfG 0 (lamF fe (capS s.ρ))) [a, b, cst0] m2
theorem e_vLam2 (vfG : Addr → VF → VF) (fe f1 f2 : VE) (s : S) : vLam2 vfG fe f1 f2 s = k1_vLam2 vfG fe f1 f2 s (f1 s) := rfl
theorem k1_vLam2_ex (vfG : Addr → VF → VF) (fe f1 f2 : VE) (s : S) (C : Addr) (fs : List (Str × T)) (m0 : List MO) : k1_vLam2 vfG fe f1 f2 s (some (.ex C fs, m0)) = some (.ex C fs, m0) := rfl

def k2_vLam2 (vfG : Addr → VF → VF) (fe f1 f2 : VE) (s : S) (a : Sl) (m1 : List MO) (xx : M Sl) : M Sl := bM xx fun b m2 => callM (vfG 0 (lamF fe (capS s.ρ))) [a, b, cst0] m2
theorem k1_vLam2_ok (vfG : Addr → VF → VF) (fe f1 f2 : VE) (s : S) (a : Sl) (m1 : List MO) : k1_vLam2 vfG fe f1 f2 s (some (.ok a, m1)) = k2_vLam2 vfG fe f1 f2 s a m1 (f2 ⟨s.ρ, m1⟩) := rfl
theorem k2_vLam2_ex (vfG : Addr → VF → VF) (fe f1 f2 : VE) (s : S) (a : Sl) (m1 : List MO) (C : Addr) (fs : List (Str × T)) (m0 : List MO) : k2_vLam2 vfG fe f1 f2 s a m1 (some (.ex C fs, m0)) = some (.ex C fs, m0) := rfl
theorem k2_vLam2_ok (vfG : Addr → VF → VF) (fe f1 f2 : VE) (s : S) (a : Sl) (m1 : List MO) (b : Sl) (m2 : List MO) : k2_vLam2 vfG fe f1 f2 s a m1 (some (.ok b, m2)) = (callM (vfG 0 (lamF fe (capS s.ρ))) [a, b, cst0] m2) := rfl
def k1_vSortK (fe f1 : VE) (s : S) (xx : M Sl) : M (List T) := bM xx (gSortK (lamF fe (capS s.ρ)))
theorem e_vSortK (fe f1 : VE) (s : S) : vSortK fe f1 s = k1_vSortK fe f1 s (f1 s) := rfl
theorem k1_vSortK_ex (fe f1 : VE) (s : S) (C : Addr) (fs : List (Str × T)) (m0 : List MO) : k1_vSortK fe f1 s (some (.ex C fs, m0)) = some (.ex C fs, m0) := rfl
theorem k1_vSortK_ok (fe f1 : VE) (s : S) (a0 : Sl) (m0 : List MO) : k1_vSortK fe f1 s (some (.ok a0, m0)) = ((gSortK (lamF fe (capS s.ρ)))) a0 m0 := rfl
theorem e_vAug (i : Nat) (f : Int → Int → Int) (fe : VE) (s : S) : vAug i f fe s = (match s.ρ[i]? with | some (some (.val (.int _))) => bS s.ρ (fe s) (gAug i s.ρ f) | _ => none) := rfl
end Vs
end
section
namespace Vs
open PySem PySem.Spec PyProof.Rows L2
end Vs
end
section
namespace Vw.Pk
open PySem PySem.Spec PyProof.Rows L2 Own Vs
inductive Wo where | ok | spare | fault | late | denied
deriving DecidableEq
def Wo.s : Wo → Str | .ok => "ok" | .spare => "spare" | .fault => "fault" | .late => "late" | .denied => "denied"
def Wo.bad : Wo → Bool | .ok => false | .spare => false | _ => true
def cal : Bool → Str | true => "out" | false => "in"
def onS : Bool → Str | true => "all" | false => "fault"
def whS : Bool → Str | true => "all" | false => "good"
def outS : Bool → Str | true => "ok" | false => "fault"
def natT : Option Nat → T | none => .non | some n => .int n
inductive Rw where
  | keep (all : Bool) (life : Option Nat) | tries (many : Nat) (all : Bool) | limit (many : Nat) | leave | soft (all : Bool) | count | lend
deriving DecidableEq
def Rw.t : Rw → T
  | .keep w l => .ins c0.Keep [("what", .str (whS w)), ("life", natT l)]
  | .tries n o => .ins c0.Tries [("many", .int n), ("on", .str (onS o))]
  | .limit n => .ins c0.Limit [("many", .int n)]
  | .leave => .ins c0.Leave []
  | .soft o => .ins c0.Soft [("on", .str (onS o))]
  | .count => .ins c0.Count []
  | .lend => .ins c0.Lend []
abbrev Kp := Option (Wo × Option Nat × Bool)
structure CSt where
  held : List Kp
  counts : List (Option Nat)
  given : List (Nat × Wo × Bool)
  stored : List Wo
  limits : List (Nat × Nat)
  tries : Nat
  cut : Option Nat
structure CIn where
  rows : List Rw
  out : Bool
  outs : List Bool
  tup : Bool
def seqT (tup : Bool) (ts : List T) : T := if tup then .tup ts else .lst ts
def ansT : Option Wo → T | none => .non | some w => .str w.s
def isF (all : Bool) : Option Wo → Bool
  | some .fault | some .late => true
  | some .denied => all
  | _ => false
def isOver (i : CIn) (tries : Nat) (l : Nat × Nat) : Bool := match i.rows[l.1]? with
  | some (.limit n) => decide (n + l.2 ≤ tries)
  | _ => false
def tryP (i : CIn) (s : CSt) : Option Wo × CSt := match s.limits.find? (isOver i s.tries) with
  | some l => (none, { s with cut := some l.1 })
  | none => (some (if i.outs.getD s.tries false then .ok else .fault), { s with tries := s.tries + 1 })
def repP (f : CSt → Option Wo × CSt) (all : Bool) : Nat → Option Wo × CSt → Option Wo × CSt
  | 0, r => r
  | k + 1, r => if isF all r.1 then repP f all k (f r.2) else r
def storeP (all : Bool) (life : Option Nat) (n : Nat) (r : Option Wo × CSt) : Option Wo × CSt := match r.1 with
  | none => r
  | some w => if all || !w.bad then (some w, { r.2 with held := r.2.held.set n (some (w, life, false)), stored := r.2.stored ++ [w] }) else r
def limP (n : Nat) (r : Option Wo × CSt) : Option Wo × CSt :=
  if r.2.cut = some n then (some .late, { r.2 with limits := r.2.limits.dropLast, cut := none }) else (r.1, { r.2 with limits := r.2.limits.dropLast })
def upC (n : Nat) (s : CSt) : CSt := { s with counts := s.counts.modify n fun o => o.map (· + 1) }
def askP (i : CIn) : List Rw → Nat → Bool → CSt → Option Wo × CSt
  | [], _, _, s => tryP i s
  | .keep all life :: r, n, o, s => match s.held[n]? with
    | some (some k) => (some k.1, { s with given := s.given ++ [(n, k.1, k.2.2)] })
    | _ => storeP all life n (askP i r (n + 1) o s)
  | .tries many all :: r, n, o, s => repP (askP i r (n + 1) o) all (many - 1) (askP i r (n + 1) o s)
  | .limit _ :: r, n, o, s => limP n (askP i r (n + 1) o { s with limits := s.limits ++ [(n, s.tries)] })
  | .leave :: r, n, o, s => if o then (some .denied, s) else askP i r (n + 1) o s
  | .soft all :: r, n, o, s => let a := askP i r (n + 1) o s; (if isF all a.1 then some .spare else a.1, a.2)
  | .count :: r, n, o, s => askP i r (n + 1) o (upC n s)
  | .lend :: r, n, _, s => askP i r (n + 1) false s
structure Lt (i : CIn) (B : Nat) (s s' : CSt) : Prop where
  lims : s'.limits = s.limits
  held : s'.held.length = s.held.length
  cnt : s'.counts.length = s.counts.length
  cnts : ∀ n : Nat, (∃ k, s.counts[n]? = some (some k)) → ∃ k, s'.counts[n]? = some (some k)
  giv : s'.given.length ≤ s.given.length + B
  sto : s'.stored.length ≤ s.stored.length + B
end Vw.Pk
end
section
namespace Vw.Pk
open PySem PySem.Spec PyProof.Rows L2 Own Vs
section
variable {i : CIn} {s s' : CSt} {m : List MO} {ρ r : List (Option Sl)} {g : Gp0} {fa : VA}
theorem int_eq {a b : Int} : gDat PyData.eqv (.val (.int a)) (.val (.int b)) m = rM (.val (.bl (decide (a = b)))) m := dat_int a b
theorem call_vals {vf : VF} {as : List Sl} {t : T} (h : vf as [] = some (.ok (.val t), [])) (hv : owns as = []) (hr : renSs [] as = some as) : callM vf as m = rM (.val t) m := by
  have := call_fresh0 (m := m) hv hr h
  simpa [backO, backS] using this
end
section
variable {i : CIn} {s : CSt}
end

end Vw.Pk
end
section
namespace Vw.Pk
open PySem PySem.Spec PyProof.Rows L2 Own Vs
section
variable {i : CIn} {s : CSt} {g : Gp0} {n : Nat} {o : Bool}
def Rw.isKeep : Rw → Bool | .keep .. => true | _ => false
def Rw.isCount : Rw → Bool | .count => true | _ => false
end

end Vw.Pk
end
section
namespace Vw.Pk
open PySem PySem.Spec PyProof.Rows L2 Own Vs
def st0 (rows : List Rw) (h : List Kp) : CSt := ⟨h, rows.map fun r => if r.isCount then some 0 else none, [], [], [], 0, none⟩
def runP (i : CIn) (h : List Kp) : Option Wo × CSt := askP i i.rows 0 i.out (st0 i.rows h)
structure Ok (rows : List Rw) : Prop where
  len : rows.length ≤ 7
  tries : ∀ m a, Rw.tries m a ∈ rows → 1 ≤ m ∧ m ≤ 3
  life : ∀ a l, Rw.keep a (some l) ∈ rows → l ≤ 3
  limit : ∀ m, Rw.limit m ∈ rows → 1 ≤ m ∧ m ≤ 6
section
variable {i : CIn} {h : List Kp} {m : List MO}
end

end Vw.Pk
end
section
namespace Vw.Pk
open PySem PySem.Spec PyProof.Rows L2 Own Vs
def stackT (rows : List Rw) : T := .ins c0.Stack [("rows", .tup (rows.map Rw.t))]
abbrev Cl := CIn × (Option Wo × CSt)
def mkC (rows : List Rw) (h : List Kp) (o : Bool) (outs : List Bool) (tup : Bool) : Cl := let i : CIn := ⟨rows, o, outs, tup⟩; (i, runP i h)
section
variable {rows : List Rw} {h : List Kp} {o : Bool} {m : List MO}
end

end Vw.Pk
end
section
namespace Vw.Pk
open PySem PySem.Spec PyProof.Rows L2 Own Vs
def worst (rows : List Rw) (h : List Kp) (o : Bool) : Nat := (mkC rows h o [] true).2.2.tries
def outsOf (n : Nat) : List (List Bool) := ((List.range n).map fun k => List.replicate k false ++ [true]) ++ [List.replicate n false]
def callsOf (rows : List Rw) (h : List Kp) (o : Bool) : List Cl := (outsOf (worst rows h o)).map fun outs => mkC rows h o outs true
def callsFrom (rows : List Rw) (h : List Kp) : List Cl := callsOf rows h false ++ callsOf rows h true
section
variable {rows : List Rw} {h : List Kp} {o : Bool} {m : List MO}
end
def agedP : Kp → Kp
  | none => none
  | some (_, some 0, _) => none
  | some (w, some (n + 1), _) => some (w, some n, true)
  | some (w, none, _) => some (w, none, true)
def tickP (h : List Kp) : List Kp := h.map agedP
end Vw.Pk
end
section
namespace Vw.Pk
open PySem PySem.Spec PyProof.Rows L2 Own Vs
inductive Wi where | calm | fresh | kept | leave | once | spare | tries | bound (n : Fin 6)
deriving DecidableEq
def Wi.s : Wi → Str
  | .calm => "calm" | .fresh => "fresh" | .kept => "kept" | .leave => "leave" | .once => "once" | .spare => "spare" | .tries => "tries"
  | .bound 0 => "bound 1" | .bound 1 => "bound 2" | .bound 2 => "bound 3" | .bound 3 => "bound 4" | .bound 4 => "bound 5" | .bound 5 => "bound 6"
def ansBad : Option Wo → Bool | some w => w.bad | none => false
def breaksP (c : Cl) : Wi → Bool
  | .calm => !c.1.out && ansBad c.2.1
  | .fresh => c.2.2.given.any fun g => g.2.2
  | .kept => c.2.2.given.any fun g => g.2.1.bad
  | .leave => c.1.out && (decide (0 < c.2.2.tries) || decide (c.2.1 = some .ok))
  | .once => c.2.2.counts.any fun k => match k with | some n => decide (n ≠ 1) | none => false
  | .spare => c.2.2.stored.any fun w => decide (w = .spare)
  | .tries => c.2.2.counts.any fun k => match k with | some n => decide (n ≠ c.2.2.tries) | none => false
  | .bound n => decide (n.val + 1 < c.2.2.tries)
section
variable {c : Cl} {m : List MO}
end

end Vw.Pk
end
section
namespace Vw.Pk
open PySem PySem.Spec PyProof.Rows L2 Own Vs
def evS (c : Cl) : Str := Txt.join " " (cal c.1.out :: c.1.outs.map outS)
def eventsFrom (rows : List Rw) (h : List Kp) : List (Str × List Kp) := ("tick", tickP h) :: (callsFrom rows h).map fun c => (evS c, c.2.2.held)
section
variable {m : List MO} {rows : List Rw} {h : List Kp}
end

end Vw.Pk
end
section
namespace Vw.Pk
open PySem PySem.Spec PyProof.Rows L2 Own Vs
section
variable {α β : Type} [DecidableEq α]
abbrev Fd (α β : Type) := List (α × Option (α × β))
def stepF (here : α) (fd : Fd α β) (e : β × α) : Fd α β := if fd.any (fun p => decide (p.1 = e.2)) then fd else fd ++ [(e.2, some (here, e.1))]
def turnF (steps : α → List (β × α)) (x : Fd α β × Nat) : Fd α β × Nat := match x.1[x.2]? with
  | some p => ((steps p.1).foldl (stepF p.1) x.1, x.2 + 1)
  | none => x
def runF (steps : α → List (β × α)) : Nat → Fd α β × Nat → Fd α β × Nat
  | 0, x => x
  | n + 1, x => if x.2 < x.1.length then runF steps n (turnF steps x) else x
variable {enc : α → T} {key : α → NestedKey} {lab : β → T} {P : α → Prop}
def nd (fd : Fd α β) : Prop := (fd.map (·.1)).Nodup
end

end Vw.Pk
end
section
namespace Vw.Pk
open PySem PySem.Spec PyProof.Rows L2 Own Vs
section
variable {α β : Type} [DecidableEq α]
def ks (fd : Fd α β) : List α := fd.map (·.1)
variable {steps : α → List (β × α)} {a : α}
variable {enc : α → T} {key : α → NestedKey} {lab : β → T} {P : α → Prop} {vf : VF}
def foundF (steps : α → List (β × α)) (a : α) : Fd α β := (runF steps 1000 ([(a, none)], 0)).1
end
def lefts : Option Nat → List (Option Nat)
  | none => [none]
  | some n => (List.range (n + 1)).map some
def words : List Wo := [.ok, .spare, .fault, .late, .denied]
def allK : Rw → List Kp
  | .keep _ life => none :: words.flatMap fun w => (lefts life).flatMap fun l => [some (w, l, true), some (w, l, false)]
  | _ => [none]
def univ : List Rw → List (List Kp)
  | [] => [[]]
  | r :: rs => (allK r).flatMap fun k => (univ rs).map (k :: ·)
end Vw.Pk
end
section
namespace Vw.Pk
open PySem PySem.Spec PyProof.Rows L2 Own Vs
end Vw.Pk
end
section
namespace Vw.Pk
open PySem PySem.Spec PyProof.Rows L2 Own Vs
def begunP (rows : List Rw) : List Kp := rows.map fun _ => none
def found (rows : List Rw) : Fd (List Kp) Str := foundF (eventsFrom rows) (begunP rows)
def standingsP (rows : List Rw) : List (List Kp) := ks (found rows)
def posCalls (rows : List Rw) : List Cl := (standingsP rows).flatMap fun h => callsFrom rows h
def keptP (rows : List Rw) (ws : List Wi) : List Wi := ws.filter fun w => !(posCalls rows).any fun c => breaksP c w
section
variable {rows : List Rw} {h : List Kp} {m : List MO}
theorem filterMap_filter {α γ : Type} {p : α → Bool} {g : α → γ} : ∀ l : List α, l.filterMap (fun a => if p a then some (g a) else none) = (l.filter p).map g
  | [] => rfl
  | a :: r => by
    cases h : p a with
    | true => rw [List.filterMap_cons_some (by rw [h]; rfl), List.filter_cons_of_pos h, List.map_cons, filterMap_filter r]
    | false => rw [List.filterMap_cons_none (by rw [h]; rfl), List.filter_cons_of_neg (by simp [h]), filterMap_filter r]
def keepsAll (rows : List Rw) (ws : List Wi) : Bool := decide ((keptP rows ws).length = ws.length)
end

end Vw.Pk
end
section
namespace Vw.Pk
open PySem PySem.Spec PyProof.Rows L2 Own Vs
def stepO (n : Nat) (l : List (List Nat)) : List (List Nat) := l.flatMap fun o => (List.range n).filterMap fun i => if i ∈ o then none else some (o ++ [i])
def iterO (n : Nat) : Nat → List (List Nat)
  | 0 => [[]]
  | k + 1 => stepO n (iterO n k)
def ordersP (n : Nat) : List (List Nat) := iterO n n
def orderT (o : List Nat) : T := .tup (o.map fun i : Nat => T.int (i : Int))
def okNon (r : Option (Out Sl × List MO)) : Bool := match r with
  | some (.ok (.val .non), []) => true
  | _ => false
theorem of_okNon {r : Option (Out Sl × List MO)} (h : okNon r = true) : r = some (.ok (.val .non), []) := by
  unfold okNon at h
  split at h
  · rfl
  · cases h
theorem orders_all : ∀ n : Nat, n ≤ 4 → ((ordersP n).all fun o => okNon (f_check_order c0 [.val (orderT o), .val (.int (n : Int))] [])) = true
  | 0, _ => by kernel_rfl
  | 1, _ => by kernel_rfl
  | 2, _ => by kernel_rfl
  | 3, _ => by kernel_rfl
  | 4, _ => by kernel_rfl
  | n + 5, h => absurd h (by omega)
theorem check_order_eq {n : Nat} (hn : n ≤ 4) {o : List Nat} (ho : o ∈ ordersP n) : f_check_order c0 [.val (orderT o), .val (.int (n : Int))] [] = some (.ok (.val .non), []) :=
  of_okNon (List.all_eq_true.mp (orders_all n hn) o ho)
theorem orders_lt_b : ∀ n : Nat, n ≤ 4 → ((ordersP n).all fun o => decide (o.length = n) && o.all (fun i => decide (i < n)) && decide o.Nodup) = true
  | 0, _ => by decide
  | 1, _ => by decide
  | 2, _ => by decide
  | 3, _ => by decide
  | 4, _ => by decide +kernel
  | n + 5, h => absurd h (by omega)
theorem orders_mem {n : Nat} (hn : n ≤ 4) {o : List Nat} (ho : o ∈ ordersP n) : o.length = n ∧ (∀ i ∈ o, i < n) ∧ o.Nodup := by
  have := List.all_eq_true.mp (orders_lt_b n hn) o ho
  simp only [Bool.and_eq_true, decide_eq_true_iff, List.all_eq_true] at this
  exact ⟨this.1.1, this.1.2, this.2⟩
def permR (rows : List Rw) (o : List Nat) : List Rw := o.map fun i => rows.getD i .lend
def bIsRow : VS := vBody [1, 2] (vIf (vNot (vTest (vIsi (tyTab (fun _ => false) (ct_Row c0)) (vVar 2)))) vNever vNext)
theorem isRow_turn (t0 : T) (k : Int) : ∀ r : Rw, bIsRow ⟨[some (.val t0), some (.val (.int k)), some (.val r.t)], []⟩ = some (.nx, ⟨[some (.val t0), none, none], []⟩) := by
  intro r
  cases r <;> kernel_rfl
theorem isRow_loop (t0 : T) : ∀ (rows : List Rw) (k : Nat), vLoop (vgTup [vgName 1, vgName 2]) bIsRow (numT k (rows.map Rw.t)) ⟨[some (.val t0), none, none], []⟩ = some (.nx, ⟨[some (.val t0), none, none], []⟩)
  | [], _ => rfl
  | r :: rs, k => by
    rw [List.map_cons]
    show vLoop _ _ (.pr [.int (k : Int), r.t] :: numT (k + 1) (rs.map Rw.t)) _ = _
    rw [vLoop]
    show (match bIsRow ⟨[some (.val t0), some (.val (.int (k : Int))), some (.val r.t)], []⟩ with
      | some (.nx, s1) => vLoop (vgTup [vgName 1, vgName 2]) bIsRow (numT (k + 1) (rs.map Rw.t)) s1
      | some (.ct, s1) => vLoop (vgTup [vgName 1, vgName 2]) bIsRow (numT (k + 1) (rs.map Rw.t)) s1
      | some (.bk, s1) => some (.nx, s1)
      | r => r) = _
    rw [isRow_turn]
    exact isRow_loop t0 rs (k + 1)
theorem rows_of_eq {rows : List Rw} (hl : rows.length ≤ 900) (tup : Bool) : f_rows_of c0 [.val (seqT tup (rows.map Rw.t))] [] = some (.ok (.val (.tup (rows.map Rw.t))), []) := by
  have hz : SZ = 1000000 := rfl
  have isq : callM (f_is_sequence c0) [.val (seqT tup (rows.map Rw.t))] [] = rM (.val (.bl true)) [] := call_vals (by cases tup <;> kernel_rfl) rfl rfl
  have L := isRow_loop (seqT tup (rows.map Rw.t)) rows 0
  have it : vEnum (vCons (vVar 0) vNil) ⟨[some (.val (seqT tup (rows.map Rw.t))), none, none], []⟩ = rM (numT 0 (rows.map Rw.t)) [] := by cases tup <;> rfl
  refine (sd_rt (f := b_rows_of c0) (a := .val (.tup (rows.map Rw.t))) (s1 := ⟨[some (.val (seqT tup (rows.map Rw.t))), none, none], []⟩) ?_).trans rfl
  refine st_seq (s1 := ⟨[some (.val (seqT tup (rows.map Rw.t))), none, none], []⟩) (st_ifn (sc_not (sc_test (se_call rfl isq))) rfl) (st_seq (s1 := ⟨[some (.val (seqT tup (rows.map Rw.t))), none, none], []⟩) ?_ (st_ret (se_b (sa_cons rfl sa_nil) ?_)))
  · show vFor _ _ _ ⟨[some (.val (seqT tup (rows.map Rw.t))), none, none], []⟩ = _
    exact st_for it L
  · have : seqOf (.val (seqT tup (rows.map Rw.t))) [] = some (rows.map Rw.t) := by cases tup <;> rfl
    show gTupOf [.val (seqT tup (rows.map Rw.t))] [] = _
    unfold gTupOf
    simp only [this]
    rw [if_pos (by rw [List.length_map]; omega)]
theorem rows_of_call {rows : List Rw} {m : List MO} (hl : rows.length ≤ 900) (tup : Bool) : callM (f_rows_of c0) [.val (seqT tup (rows.map Rw.t))] m = rM (.val (.tup (rows.map Rw.t))) m := call_vals (rows_of_eq hl tup) rfl rfl
theorem make_stack {rows : List Rw} (hl : rows.length ≤ 900) {fa : VA} {ρ : List (Option Sl)} {tup : Bool} (ha : fa ⟨ρ, []⟩ = rM [.val (seqT tup (rows.map Rw.t))] []) : vCutE (vInsD (vMake c0.Stack (f_Stack_init c0) fa)) ⟨ρ, []⟩ = rM (.val (stackT rows)) [] := by
  have e1 : f_Stack_init c0 [.own 0, .val (seqT tup (rows.map Rw.t))] [.ins c0.Stack []] = some (.ok (.val .non), [.ins c0.Stack [("rows", .val (.tup (rows.map Rw.t)))]]) := by
    refine (sd_nx (f := b_Stack_init c0) (s1 := ⟨[some (.own 0), some (.val (seqT tup (rows.map Rw.t)))], [.ins c0.Stack [("rows", .val (.tup (rows.map Rw.t)))]]⟩) ?_).trans rfl
    show vSetF _ _ _ _ _ = _
    unfold vSetF
    rw [se_call rfl (rows_of_call hl tup)]
    rfl
  have e2 : callM (f_Stack_init c0) [.own 0, .val (seqT tup (rows.map Rw.t))] [.ins c0.Stack []] = match f_Stack_init c0 [.own 0, .val (seqT tup (rows.map Rw.t))] [.ins c0.Stack []] with
    | some (o, sub') => if 1 ≤ sub'.length then some (backO [0] 1 o, putAll [0] [.ins c0.Stack []] sub') else none
    | none => none := rfl
  rw [e1] at e2
  show kCutE 0 (bM (bM (fa ⟨ρ, []⟩) _) gInsD) = _
  rw [ha]
  show kCutE 0 (bM (bM (callM (f_Stack_init c0) [.own 0, .val (seqT tup (rows.map Rw.t))] [.ins c0.Stack []]) _) gInsD) = _
  rw [e2]
  rfl
theorem stack_of_eq {rows : List Rw} (hl : rows.length ≤ 4) (tup : Bool) {o : List Nat} (ho : o ∈ ordersP rows.length) : f_stack_of c0 [.val (seqT tup (rows.map Rw.t)), .val (orderT o)] [] = some (.ok (.val (stackT (permR rows o))), []) := by
  have hz : SZ = 1000000 := rfl
  obtain ⟨h1, h2, _⟩ := orders_mem hl ho
  have ck : callM (f_check_order c0) [.val (orderT o), .val (.int (rows.length : Int))] [] = rM (.val .non) [] := call_vals (check_order_eq hl ho) rfl rfl
  let ρ : List (Option Sl) := [some (.val (seqT tup (rows.map Rw.t))), some (.val (orderT o)), some (.val (.tup (rows.map Rw.t))), none]
  have c1 : vComp [3] (vItems (vVar 1)) (vgName 3) vYes (vBin gIx (vVar 2) (vVar 3)) ⟨ρ, []⟩ = rM (o.map fun i => (rows.getD i .lend).t) [] :=
    comp_map (xs := o) (t := fun i : Nat => T.int (i : Int)) (u := fun i => (rows.getD i .lend).t) rfl (fun i hi => ⟨[some (.val (seqT tup (rows.map Rw.t))), some (.val (orderT o)), some (.val (.tup (rows.map Rw.t))), some (.val (.int (i : Int)))], rfl, by
      have hi := h2 i hi
      refine se_bin rfl rfl (ix_tup ?_)
      rw [List.getElem?_map, List.getD_eq_getElem?_getD, List.getElem?_eq_getElem hi]
      rfl⟩) (by omega)
  have e : (o.map fun i => (rows.getD i .lend).t) = (permR rows o).map Rw.t := by simp [permR]
  rw [e] at c1
  refine (sd_rt (f := b_stack_of c0) (a := .val (stackT (permR rows o))) (s1 := ⟨ρ, []⟩) ?_).trans rfl
  refine st_seq (s1 := ⟨ρ, []⟩) (st_set (se_call rfl (rows_of_call (by omega) tup))) (st_seq (s1 := ⟨ρ, []⟩) (st_drop (a := .val .non) (se_call (sa_cons rfl (sa_cons (se_b (sa_cons rfl sa_nil) ?_) sa_nil)) ck)) (st_ret ?_))
  · show rM (Sl.val (.int ((rows.map Rw.t).length : Int))) [] = _
    rw [List.length_map]
  · exact make_stack (tup := false) (by simp only [permR, List.length_map]; omega) (sa_cons (se_val c1) sa_nil)
theorem stack_of_call {rows : List Rw} {m : List MO} (hl : rows.length ≤ 4) (tup : Bool) {o : List Nat} (ho : o ∈ ordersP rows.length) : callM (f_stack_of c0) [.val (seqT tup (rows.map Rw.t)), .val (orderT o)] m = rM (.val (stackT (permR rows o))) m := call_vals (stack_of_eq hl tup ho) rfl rfl
def goodP (rows : List Rw) (ws : List Wi) : List (List Nat) := (ordersP rows.length).filter fun o => keepsAll (permR rows o) ws
end Vw.Pk
end
local macro_rules
  | `(tactic| simp! only [$ls,*]) => `(tactic| simp only [Vs.e_def, Vs.e_vVar, Vs.e_vC, Vs.e_vVal, Vs.k1_vVal_ex, Vs.k1_vVal_ok, Vs.e_vOwn, Vs.k1_vOwn_ex, Vs.k1_vOwn_ok, Vs.e_vBin, Vs.k1_vBin_ex, Vs.k1_vBin_ok, Vs.k2_vBin_ex, Vs.k2_vBin_ok, Vs.e_vSeq, Vs.kSeq_nx, Vs.kSeq_rt, Vs.kSeq_ct, Vs.kSeq_bk, Vs.kSeq_ex, Vs.e_vNext, Vs.e_vBreak, Vs.e_vCont, Vs.e_vRet, Vs.k1_vRet_ex, Vs.k1_vRet_ok, Vs.e_vSet, Vs.k1_vSet_ex, Vs.k1_vSet_ok, Vs.e_vDrop, Vs.k1_vDrop_ex, Vs.k1_vDrop_ok, Vs.e_vIf, Vs.k1_vIf_ex, Vs.k1_vIf_ok, Vs.e_vTest, Vs.k1_vTest_ex, Vs.k1_vTest_ok, Vs.e_vNot, Vs.k1_vNot_ex, Vs.k1_vNot_ok, Vs.e_vAnd, Vs.k1_vAnd_ex, Vs.k1_vAnd_ok, Vs.e_vOr, Vs.k1_vOr_ex, Vs.k1_vOr_ok, Vs.e_vIfE, Vs.k1_vIfE_ex, Vs.k1_vIfE_ok, Vs.e_vItems, Vs.k1_vItems_ex, Vs.k1_vItems_ok, Vs.e_vRange, Vs.k1_vRange_ex, Vs.k1_vRange_ok, Vs.e_vRange2, Vs.k1_vRange2_ex, Vs.k1_vRange2_ok, Vs.k2_vRange2_ex, Vs.k2_vRange2_ok, Vs.e_vFor, Vs.k1_vFor_ex, Vs.k1_vFor_ok, Vs.e_vNil, Vs.e_vCons, Vs.k1_vCons_ex, Vs.k1_vCons_ok, Vs.k2_vCons_ex, Vs.k2_vCons_ok, Vs.e_vTup, Vs.k1_vTup_ex, Vs.k1_vTup_ok, Vs.e_vLst, Vs.k1_vLst_ex, Vs.k1_vLst_ok, Vs.e_vMet, Vs.k1_vMet_ex, Vs.k1_vMet_ok, Vs.e_vRetF, Vs.k1_vRetF_ex, Vs.k1_vRetF_ok, Vs.e_vCall, Vs.k1_vCall_ex, Vs.k1_vCall_ok, Vs.e_vSetG, Vs.k1_vSetG_ex, Vs.k1_vSetG_ok, Vs.e_vYes, Vs.e_vIsN, Vs.k1_vIsN_ex, Vs.k1_vIsN_ok, Vs.e_vNoPart, Vs.e_vPart, Vs.k1_vPart_ex, Vs.k1_vPart_ok, Vs.e_vSliceL, Vs.k1_vSliceL_ex, Vs.k1_vSliceL_ok, Vs.k2_vSliceL_ex, Vs.k2_vSliceL_ok, Vs.k3_vSliceL_ok, Vs.e_vSliceV, Vs.k1_vSliceV_ex, Vs.k1_vSliceV_ok, Vs.k2_vSliceV_ex, Vs.k2_vSliceV_ok, Vs.k3_vSliceV_ok, Vs.e_vB, Vs.k1_vB_ex, Vs.k1_vB_ok, Vs.e_vMet0, Vs.k1_vMet0_ex, Vs.k1_vMet0_ok, Vs.e_vPut, Vs.k1_vPut_ex, Vs.k1_vPut_ok, Vs.k2_vPut_ex, Vs.k2_vPut_ok, Vs.k3_vPut_ok, Vs.e_vFrz, Vs.e_vEnum, Vs.k1_vEnum_ex, Vs.k1_vEnum_ok, Vs.e_vZip, Vs.k1_vZip_ex, Vs.k1_vZip_ok, Vs.e_vListRg, Vs.k1_vListRg_ex, Vs.k1_vListRg_ok, Vs.e_vFld, Vs.k1_vFld_ex, Vs.k1_vFld_ok, Vs.e_vSetF, Vs.k1_vSetF_ex, Vs.k1_vSetF_ok, Vs.k2_vSetF_ex, Vs.k2_vSetF_ok, Vs.k1_vMethD_ex, Vs.e_vMake, Vs.k1_vMake_ex, Vs.k1_vMake_ok, Vs.e_vIns, Vs.k1_vIns_ex, Vs.k1_vIns_ok, Vs.e_vRev, Vs.k1_vRev_ex, Vs.k1_vRev_ok, Vs.e_vPar, Vs.k1_vPar_ex, Vs.k1_vPar_ok, Vs.e_vMetS, Vs.k1_vMetS_ex, Vs.k1_vMetS_ok, Vs.e_vM1, Vs.k1_vM1_ex, Vs.k1_vM1_ok, Vs.e_vAndV, Vs.k1_vAndV_ex, Vs.k1_vAndV_ok, Vs.e_vOrV, Vs.k1_vOrV_ex, Vs.k1_vOrV_ok, Vs.e_vNotV, Vs.k1_vNotV_ex, Vs.k1_vNotV_ok, Vs.e_vIsi, Vs.k1_vIsi_ex, Vs.k1_vIsi_ok, Vs.e_vChain, Vs.k1_vChain_ex, Vs.k1_vChain_ok, Vs.k2_vChain_ex, Vs.k2_vChain_ok, Vs.e_vStar, Vs.k1_vStar_ex, Vs.k1_vStar_ok, Vs.e_vMakeO, Vs.e_vCMeth, Vs.k1_vCMeth_ex, Vs.k1_vCMeth_ok, Vs.e_vMakeD, Vs.k1_vMakeD_ex, Vs.k1_vMakeD_ok, Vs.e_vAtC, Vs.e_vSplit, Vs.k1_vSplit_ex, Vs.k1_vSplit_ok, Vs.e_vNoEx, Vs.e_vRaise0, Vs.e_vHas, Vs.e_vSetI, Vs.k1_vSetI_ex, Vs.k1_vSetI_ok, Vs.k2_vSetI_ex, Vs.k2_vSetI_ok, Vs.k3_vSetI_ok, Vs.e_vAugF, Vs.k1_vAugF_ex, Vs.k1_vAugF_ok, Vs.e_vInsD, Vs.k1_vInsD_ex, Vs.k1_vInsD_ok, Vs.e_vForO, Vs.k1_vForO_ex, Vs.k1_vForO_ok, Vs.e_vAugI, Vs.k1_vAugI_ex, Vs.k1_vAugI_ok, Vs.k2_vAugI_ex, Vs.k2_vAugI_ok, Vs.e_vKd, Vs.k1_vKd_ex, Vs.k1_vKd_ok, Vs.e_vKi, Vs.k1_vKi_ex, Vs.k1_vKi_ok, Vs.e_vCallT, Vs.e_vStar1, Vs.k1_vStar1_ex, Vs.k1_vStar1_ok, Vs.e_vNSet, Vs.k1_vNSet_ex, Vs.k1_vNSet_ok, Vs.k2_vNSet_ex, Vs.k2_vNSet_ok, Vs.k3_vNSet_ok, Vs.e_vTruth, Vs.k1_vTruth_ex, Vs.k1_vTruth_ok, Vs.e_vProp, Vs.k1_vProp_ex, Vs.k1_vProp_ok, Vs.e_vLstO, Vs.k1_vLstO_ex, Vs.k1_vLstO_ok, Vs.e_vSetO, Vs.k1_vSetO_ex, Vs.k1_vSetO_ok, Vs.k2_vSetO_ex, Vs.k2_vSetO_ok, Vs.k3_vSetO_ok, Vs.e_vCutE, Vs.kCutE_ok, Vs.e_vBody, Vs.kBody_nx, Vs.kBody_ct, Vs.kBody_bk, Vs.kBody_rt, Vs.kBody_ex, Vs.e_vPre, Vs.e_vKeysD, Vs.k1_vKeysD_ex, Vs.k1_vKeysD_ok, Vs.e_vFrzD, Vs.e_vCallK, Vs.k1_vCallK_ex, Vs.k1_vCallK_ok, Vs.e_vIndex, Vs.k1_vIndex_ex, Vs.k1_vIndex_ok, Vs.e_vFmt, Vs.k1_vFmt_ex, Vs.k1_vFmt_ok, Vs.e_vJoined, Vs.e_vPar3, Vs.k1_vPar3_ex, Vs.k1_vPar3_ok, Vs.e_vZipA, Vs.k1_vZipA_ex, Vs.k1_vZipA_ok, Vs.e_vMinK, Vs.k1_vMinK_ex, Vs.k1_vMinK_ok, Vs.e_vCallF, Vs.e_vLam0, Vs.e_vLam1, Vs.k1_vLam1_ex, Vs.k1_vLam1_ok, Vs.e_vLam2, Vs.k1_vLam2_ex, Vs.k1_vLam2_ok, Vs.k2_vLam2_ex, Vs.k2_vLam2_ok, Vs.e_vSortK, Vs.k1_vSortK_ex, Vs.k1_vSortK_ok, Vs.e_vAug, Vs.bM_ok, Vs.bM_ex, Vs.bS_ok, Vs.bS_ex, Vs.gInt_ok, Vs.gAdd_int, Vs.wipe, List.map_cons, List.map_nil, List.cons_append, List.nil_append, List.append_nil, List.getElem?_cons_zero, List.getElem?_cons_succ, List.length_cons, List.length_nil, List.replicate_succ, List.replicate_zero, Nat.reduceAdd, Nat.reduceSub, List.set_cons_zero, List.set_cons_succ, Nat.reduceLeDiff, Vs.seqD0, Vs.seqD1, Vs.seqD2, Vs.seqD3, Vs.seqD4, Vs.seqD5, Vs.gNew0, Vs.gNew1, Vs.gNew2, Vs.gNew3, Vs.vgN, Vs.vgT, Vs.vgA, Vs.vgA0, Vs.isN_non, Vs.isN_tup, Vs.isN_lst, Vs.isN_str, Vs.isN_int, Vs.isN_ins, Vs.seqOf_tup, Vs.seqOf_lst, Vs.seqOf_seq, Vs.andV_t, Vs.andV_f, Vs.orV_t, Vs.orV_f, Vs.notV_b, Vs.gSeq, $ls,*])

section
namespace Vw.Pk
open PySem PySem.Spec PyProof.Rows L2 Own Vs
structure De where
  x : Int
  g : List Int
structure De.Ok (d : De) : Prop where
  x : 0 ≤ d.x ∧ d.x < 2147483647
  g : d.g.length ≤ 900
def dM (d : De) : List MO := [.rcd [("great", .own 1), ("mixed", .val (.int d.x))], .lst (d.g.reverse.map T.int)]
def drawP (n : Int) (d : De) : Int × De := match d.g.dropWhile (fun a => decide (a = 0)) with
  | [] => let x := (d.x * 30671 + 59) % 2147483647; ((x / 64) % n, ⟨x, []⟩)
  | a :: r => (a % n, ⟨d.x, a / n :: r⟩)
theorem drop_len {g : List Int} : (g.dropWhile fun a => decide (a = 0)).length ≤ g.length := by
  induction g with
  | nil => simp
  | cons a r ih => rw [List.dropWhile_cons]; split <;> simp <;> omega
theorem draw_ok {n : Int} {d : De} (h : d.Ok) (hn : 0 < n) : (drawP n d).2.Ok ∧ 0 ≤ (drawP n d).1 ∧ (drawP n d).1 < n := by
  unfold drawP
  have hl := @drop_len d.g
  split
  · exact ⟨⟨⟨Int.emod_nonneg _ (by decide), Int.emod_lt_of_pos _ (by decide)⟩, Nat.zero_le _⟩, Int.emod_nonneg _ (by omega), Int.emod_lt_of_pos _ hn⟩
  · rename_i a r e
    rw [e] at hl
    have := h.g
    exact ⟨⟨h.x, by simp at hl ⊢; omega⟩, Int.emod_nonneg _ (by omega), Int.emod_lt_of_pos _ hn⟩
section
variable {d : De} {n : Int} {m : List MO}
theorem ne_nil {g : List Int} {x : Int} : gDat (fun d e => !PyData.eqv d e) (.own 1) (.val (.lst [])) (dM ⟨x, g⟩) = rM (.val (.bl (!g.isEmpty))) (dM ⟨x, g⟩) := by
  have good : ∀ gs : List Int, ∃ ds, toDs (gs.map T.int) = some ds ∧ PyData.canLayAll0 ds = true ∧ PyData.depthAll ds = 0 ∧ ds.length = gs.length := fun gs => by
    induction gs with
    | nil => exact ⟨[], rfl, rfl, rfl, rfl⟩
    | cons a r ih =>
      obtain ⟨ds, e1, e2, e3, e4⟩ := ih
      refine ⟨.int a :: ds, by rw [List.map_cons]; unfold toDs; rw [e1]; rfl, by unfold PyData.canLayAll0; rw [e2]; rfl, by unfold PyData.depthAll; rw [e3]; rfl, by simp [e4]⟩
  obtain ⟨ds, e1, e2, e3, e4⟩ := good g.reverse
  have ed : datOf (.own 1) (dM ⟨x, g⟩) = some (.list ds) := by
    show (match (some (MO.lst (g.reverse.map T.int)) : Option MO) with
      | some (.lst ts) => (toDs ts).map PyData.list
      | _ => none) = _
    simp only [e1]; rfl
  have s1 : SeqAt.shaped (.list ds) = true := by
    unfold SeqAt.shaped
    rw [show (PyData.list ds).canLay0 = PyData.canLayAll0 ds from by unfold PyData.canLay0; rfl, e2]
    have : (PyData.list ds).depth ≤ 64 := by
      rw [show (PyData.list ds).depth = PyData.depthAll ds + 1 from by unfold PyData.depth; rfl, e3]; decide
    simp [this]
  unfold gDat
  rw [ed, show datOf (.val (.lst [])) (dM ⟨x, g⟩) = some (.list []) from rfl]
  simp only
  rw [if_pos ⟨s1, by decide⟩]
  have hl : ds.length = g.length := by rw [e4]; simp
  cases g with
  | nil => cases ds with
    | nil => rfl
    | cons a r => simp at hl
  | cons u r => cases ds with
    | nil => simp at hl
    | cons a r' => rfl
theorem last_g {a x : Int} {r : List Int} : gIx (.own 1) (.val (.int (-1))) (dM ⟨x, a :: r⟩) = rM (.val (.int a)) (dM ⟨x, a :: r⟩) := by
  have e : ((a :: r).reverse.map T.int) = r.reverse.map T.int ++ [T.int a] := by simp
  unfold gIx
  have sq : seqOf (.own 1) (dM ⟨x, a :: r⟩) = some (r.reverse.map T.int ++ [T.int a]) := by rw [← e]; rfl
  have ix : ixN (r.reverse.map T.int ++ [T.int a]).length (-1) = some r.length := by
    unfold ixN
    rw [if_neg (by decide), if_pos (by simp; omega)]
    congr 1
    simp
    omega
  have at_ : atI (r.reverse.map T.int ++ [T.int a]) (-1) = some (T.int a) := by
    unfold atI
    rw [ix]
    show (r.reverse.map T.int ++ [T.int a])[r.length]? = _
    rw [List.getElem?_append_right (by simp)]
    simp
  simp only [sq, at_]
theorem pop_g {a x : Int} {r : List Int} : gPop (.own 1) [] (dM ⟨x, a :: r⟩) = rM (.val (.int a)) (dM ⟨x, r⟩) := by
  rw [pop_own (ts := r.reverse.map T.int) (t := .int a) (by show some (MO.lst ((a :: r).reverse.map T.int)) = _; simp)]
  rfl
theorem app_g {a x : Int} {r : List Int} (h : r.length ≤ 900) : gAppend (.own 1) [.val (.int a)] (dM ⟨x, r⟩) = rM (.val .non) (dM ⟨x, a :: r⟩) := by
  have hz : SZ = 1000000 := rfl
  rw [app_own (ts := r.reverse.map T.int) rfl (by simp; omega)]
  simp [dM]
theorem rd_g : gRd (.own 0) (.val (.str "great")) (dM d) = rM (.own 1) (dM d) := rfl
theorem rd_x : gRd (.own 0) (.val (.str "mixed")) (dM d) = rM (.val (.int d.x)) (dM d) := rfl
theorem isL1 : isLst (.own 1) (dM d) = true := rfl
theorem put_x {ρ : List (Option Sl)} {x : Int} : gPut ρ (.val (.int x)) (.own 0) (.val (.str "mixed")) (dM d) = some (.nx, ⟨ρ, dM ⟨x, d.g⟩⟩) := rfl
theorem strip_wh : ∀ (g : List Int) (N : Nat), g.length < N → whX (fun g : List Int => match g with | [] => false | a :: _ => decide (a = 0)) (fun g => (.inr g.tail : (Fl × S) ⊕ List Int)) N g = some (.inr (g.dropWhile fun a => decide (a = 0)))
  | g, 0, h => absurd h (Nat.not_lt_zero _)
  | [], N + 1, _ => rfl
  | a :: r, N + 1, h => by
    unfold whX
    rw [List.dropWhile_cons]
    by_cases e : a = 0
    · simp only [e, decide_true, if_true]
      exact strip_wh r N (by simp at h; omega)
    · simp only [e, decide_false, Bool.false_eq_true, if_false]
theorem gIntC_ok {c : Int → Int → Bool} {f : Int → Int → T} {i j : Int} (h : c i j = true) : gIntC c f (.val (.int i)) (.val (.int j)) m = rM (.val (f i j)) m := by unfold gIntC; simp only; rw [if_pos h]
theorem int1 {i : Int} : gInt1 [.val (.int i)] m = rM (.val (.int i)) m := rfl
theorem draw_eq (h : d.Ok) (hn : 0 < n ∧ n < 1000000) : f_draw c0 [.own 0, .val (.int n)] (dM d) = some (.ok (.val (.int (drawP n d).1)), dM (drawP n d).2) := by
  obtain ⟨x, g⟩ := d
  have W := wh_run (St := fun g : List Int => (⟨[some (.own 0), some (.val (.int n)), some (.own 1), none], dM ⟨x, g⟩⟩ : S)) (fc := vAnd (vTest (vBin dNe (vVar 2) (vVal (vLst vNil)))) (vTest (vBin dEq (vBin gIx (vVar 2) (vC (.int (-1)))) (vC (.int 0))))) (fb := vBody [] (vDrop (vMet0 gPop (vVar 2))))
    (c := fun g => match g with | [] => false | a :: _ => decide (a = 0)) (F := fun g => .inr g.tail) (fun _ => True)
    (fun g _ => by
      have e := @ne_nil g x
      cases g with
      | nil => simp! only [dNe, e, List.isEmpty_nil, Bool.not_true, Bool.false_eq_true, if_false]
      | cons a r => simp! only [dNe, e, List.isEmpty_cons, Bool.not_false, if_true, last_g, dEq, int_eq])
    (fun g _ hc => by
      cases g with
      | nil => simp at hc
      | cons a r =>
        refine ⟨.inl ?_, trivial⟩
        simp! only [isL1, if_true, pop_g, List.tail_cons]
        rfl) 1000 g _ trivial (strip_wh g 1000 (by have := h.g; show g.length < 1000; have : g.length ≤ 900 := this; omega))
  have cd : ∀ i : Int, cDiv i n = true := fun i => by unfold cDiv; simp; omega
  have cp : ∀ i : Int, cPos i n = true := fun i => by unfold cPos; simp; omega
  have cp2 : ∀ i : Int, cPos i 2147483647 = true := fun i => by unfold cPos; simp
  have cm : ∀ i : Int, cMul i 30671 = true := fun i => by unfold cMul; simp
  have cd2 : ∀ i : Int, cDiv i 64 = true := fun i => by unfold cDiv; simp
  have hl := @drop_len g
  have hg : g.length ≤ 900 := h.g
  unfold f_draw drawP
  simp! only [b_draw, rd_g, W, outX]
  cases e : g.dropWhile fun a => decide (a = 0) with
  | nil =>
    have q := @ne_nil [] x
    simp! only [dNe, q, List.isEmpty_nil, Bool.not_true, Bool.false_eq_true, if_false, rd_x, dMul, gIntC_ok (cm _), int1, dMod, gIntC_ok (cp2 _), put_x, dDiv, gIntC_ok (cd2 _), gIntC_ok (cp _)]
    rfl
  | cons a r =>
    rw [e] at hl
    have q := @ne_nil (a :: r) x
    have ap := @app_g (a / n) x r (by simp at hl; omega)
    simp! only [dNe, q, List.isEmpty_cons, Bool.not_false, if_true, isL1, pop_g, dDiv, gIntC_ok (cd _), ap, int1, dMod, gIntC_ok (cp _)]
    rfl
end

end Vw.Pk
end
section
namespace Vw.Pk
open PySem PySem.Spec PyProof.Rows L2 Own Vs
section
variable {m : List MO}
theorem cut_d1 {d d' : De} {t : T} {o : MO} : cutO (dM d).length (.ok (.val t)) (dM d' ++ [o]) = dM d' := rfl
theorem call_d {vf : VF} {vals : List Sl} {t : T} {d d' : De} (hv : owns vals = []) (hr : renSs [0, 1] vals = some vals) (h : vf (.own 0 :: vals) (dM d) = some (.ok (.val t), dM d')) : callM vf (.own 0 :: vals) (dM d) = rM (.val t) (dM d') := by
  have e : callM vf (.own 0 :: vals) (dM d) = match (match renSs [0, 1] vals with
      | some u => some (Sl.own 0 :: u)
      | none => none), some (dM d) with
    | some as, some sub => (match vf as sub with
      | some (o, sub') => if 2 ≤ sub'.length then some (backO [0, 1] 2 o, putAll [0, 1] (dM d) sub') else none
      | none => none)
    | _, _ => none := by
    unfold callM
    rw [show owns (.own 0 :: vals) = 0 :: owns vals from rfl, hv]
    rw [show grow (dM d) 100 [0] [] = [0, 1] from rfl]
    simp only [show [0, 1].Nodup from by decide, if_true]
    rw [show renMs [0, 1] (dM d) [0, 1] = some (dM d) from rfl]
    have : renSs [0, 1] (.own 0 :: vals) = (match renSs [0, 1] vals with
      | some u => some (Sl.own 0 :: u)
      | none => none) := by
      show (match renS [0, 1] (.own 0), renSs [0, 1] vals with
        | some t, some u => some (t :: u)
        | _, _ => none) = _
      rw [hr]
      rfl
    rw [this]
    rfl
  rw [e, hr]
  simp only [h]
  rfl
theorem draw_call {d : De} {n : Int} (h : d.Ok) (hn : 0 < n ∧ n < 1000000) : callM (f_draw c0) [.own 0, .val (.int n)] (dM d) = rM (.val (.int (drawP n d).1)) (dM (drawP n d).2) := call_d rfl rfl (draw_eq h hn)
def pickP {α : Type} [Inhabited α] (xs : List α) (d : De) : α × De := (xs.getD (drawP xs.length d).1.toNat default, (drawP xs.length d).2)
theorem pick_ok {α : Type} [Inhabited α] {xs : List α} {d : De} (h : d.Ok) (hx : xs ≠ []) : (pickP xs d).1 ∈ xs ∧ (pickP xs d).2.Ok := by
  have hl : 0 < xs.length := List.length_pos_iff.mpr hx
  obtain ⟨h1, h2, h3⟩ := draw_ok (n := xs.length) h (by omega)
  refine ⟨?_, h1⟩
  unfold pickP
  have : (drawP xs.length d).1.toNat < xs.length := by omega
  rw [List.getD_eq_getElem?_getD, List.getElem?_eq_getElem this]
  exact List.getElem_mem this
theorem pick_eq {α : Type} [Inhabited α] {xs : List α} {enc : α → T} {d : De} (h : d.Ok) (hx : xs ≠ []) (hl : xs.length < 1000000) : f_pick c0 [.own 0, .val (.lst (xs.map enc))] (dM d) = some (.ok (.val (enc (pickP xs d).1)), dM (pickP xs d).2) := by
  have hp : 0 < xs.length := List.length_pos_iff.mpr hx
  obtain ⟨h1, h2, h3⟩ := draw_ok (n := xs.length) h (by omega)
  have hi : (drawP xs.length d).1.toNat < xs.length := by omega
  have dc := draw_call (n := xs.length) h (by omega)
  have ln : gLen [.val (.lst (xs.map enc))] (dM d) = rM (.val (.int (xs.length : Int))) (dM d) := by
    show rM (Sl.val (.int ((xs.map enc).length : Int))) _ = _
    rw [List.length_map]
  have e1 : (drawP xs.length d).1 = (((drawP xs.length d).1.toNat : Nat) : Int) := by omega
  have ix : gIx (.val (.lst (xs.map enc))) (.val (.int (drawP xs.length d).1)) (dM (drawP xs.length d).2) = rM (.val (enc (pickP xs d).1)) (dM (drawP xs.length d).2) := by
    rw [e1]
    refine ix_lst ?_
    rw [List.getElem?_map, List.getElem?_eq_getElem hi]
    unfold pickP
    rw [List.getD_eq_getElem?_getD, List.getElem?_eq_getElem hi]
    rfl
  simp! only [f_pick, b_pick, ln, dc, ix]
  rfl
theorem pick_call {α : Type} [Inhabited α] {xs : List α} {enc : α → T} {d : De} (h : d.Ok) (hx : xs ≠ []) (hl : xs.length < 1000000) : callM (f_pick c0) [.own 0, .val (.lst (xs.map enc))] (dM d) = rM (.val (enc (pickP xs d).1)) (dM (pickP xs d).2) := call_d rfl rfl (pick_eq h hx hl)
structure Mx (α : Type) where
  left : List α
  done : List α
  d : De
def mixT {α : Type} [Inhabited α] (x : Mx α) : Mx α := let r := drawP x.left.length x.d; ⟨x.left.eraseIdx r.1.toNat, x.done ++ [x.left.getD r.1.toNat default], r.2⟩
def mixN {α : Type} [Inhabited α] : Nat → Mx α → Mx α
  | 0, x => x
  | n + 1, x => mixN n (mixT x)
def mixedP {α : Type} [Inhabited α] (xs : List α) (d : De) : List α × De := let x := mixN xs.length ⟨xs, [], d⟩; (x.done, x.d)
section
variable {α : Type} [Inhabited α]
theorem erase_map {γ : Type} {f : α → γ} : ∀ {l : List α} {i : Nat}, (l.map f).eraseIdx i = (l.eraseIdx i).map f
  | [], _ => rfl
  | a :: r, 0 => rfl
  | a :: r, i + 1 => by rw [List.map_cons, List.eraseIdx_cons_succ, List.eraseIdx_cons_succ, erase_map, List.map_cons]
theorem erase_perm : ∀ {l : List α} {i : Nat} (h : i < l.length), (l[i] :: l.eraseIdx i).Perm l
  | a :: r, 0, _ => List.Perm.refl _
  | a :: r, i + 1, h => by
    have hi : i < r.length := by simpa using h
    have ih := erase_perm (l := r) (i := i) hi
    rw [List.getElem_cons_succ, List.eraseIdx_cons_succ]
    exact (List.Perm.swap a (r[i]'hi) _).trans (ih.cons a)
theorem mixT_ok {x : Mx α} (h : x.d.Ok) (hl : x.left ≠ []) : (mixT x).d.Ok ∧ ((mixT x).left ++ (mixT x).done).Perm (x.left ++ x.done) ∧ (mixT x).left.length + 1 = x.left.length := by
  have hp : 0 < x.left.length := List.length_pos_iff.mpr hl
  obtain ⟨h1, h2, h3⟩ := draw_ok (n := x.left.length) h (by omega)
  have hi : (drawP x.left.length x.d).1.toNat < x.left.length := by omega
  refine ⟨h1, ?_, ?_⟩
  · unfold mixT
    simp only
    rw [List.getD_eq_getElem?_getD, List.getElem?_eq_getElem hi]
    have e := (erase_perm hi).append_right x.done
    refine List.Perm.trans ?_ e
    show (x.left.eraseIdx _ ++ (x.done ++ [x.left[(drawP x.left.length x.d).1.toNat]])).Perm _
    rw [← List.append_assoc]
    exact List.perm_append_singleton _ _
  · unfold mixT
    simp only
    rw [List.length_eraseIdx_of_lt hi]
    omega
theorem mixN_ok : ∀ (n : Nat) {x : Mx α}, x.d.Ok → x.left.length = n → (mixN n x).d.Ok ∧ (mixN n x).left = [] ∧ (mixN n x).done.Perm (x.left ++ x.done)
  | 0, x, h, e => ⟨h, List.eq_nil_of_length_eq_zero e, by rw [List.eq_nil_of_length_eq_zero e]; exact List.Perm.refl _⟩
  | n + 1, x, h, e => by
    obtain ⟨h1, h2, h3⟩ := mixT_ok h (by intro z; rw [z] at e; cases e)
    obtain ⟨a1, a2, a3⟩ := mixN_ok n h1 (by omega)
    exact ⟨a1, a2, a3.trans h2⟩
theorem mixed_ok {xs : List α} {d : De} (h : d.Ok) : (mixedP xs d).2.Ok ∧ (mixedP xs d).1.Perm xs := by
  obtain ⟨h1, _, h3⟩ := mixN_ok xs.length (x := ⟨xs, [], d⟩) h rfl
  exact ⟨h1, by simp at h3; exact h3⟩
def mM (enc : α → T) (x : Mx α) : List MO := dM x.d ++ [.lst (x.left.map enc), .lst (x.done.map enc)]
theorem mix_call {enc : α → T} {x : Mx α} {n : Int} (h : x.d.Ok) (hn : 0 < n ∧ n < 1000000) : callM (f_draw c0) [.own 0, .val (.int n)] (mM enc x) = rM (.val (.int (drawP n x.d).1)) (mM enc { x with d := (drawP n x.d).2 }) := by
  have e : callM (f_draw c0) [.own 0, .val (.int n)] (mM enc x) = match f_draw c0 [.own 0, .val (.int n)] (dM x.d) with
    | some (o, sub') => if 2 ≤ sub'.length then some (backO [0, 1] 4 o, putAll [0, 1] (mM enc x) sub') else none
    | none => none := rfl
  rw [e, draw_eq h hn]
  rfl
theorem mix_turn {enc : α → T} {us : List Sl} {x : Mx α} (t : T) (a0 : T) (h : x.d.Ok) (hl : x.left ≠ []) (h9 : x.left.length + x.done.length ≤ 900) :
    Turn (fun x : Mx α => (⟨[some (.own 0), some (.val a0), none, some (.own 2), some (.own 3)], mM enc x⟩ : S)) (vgName 2) (vBody [2] (vDrop (vMet gAppend (vVar 4) (vCons (vMet gPopAt (vVar 3) (vCons (vCall (f_draw c0) (vCons (vVar 0) (vCons (vB gLen (vCons (vVar 3) vNil)) vNil))) vNil)) vNil)))) x t (.inr (mixT x)) := by
  have hz : SZ = 1000000 := rfl
  have hp : 0 < x.left.length := List.length_pos_iff.mpr hl
  obtain ⟨h1, h2, h3⟩ := draw_ok (n := x.left.length) h (by omega)
  have hi : (drawP x.left.length x.d).1.toNat < x.left.length := by omega
  have ln : gLen [.own 2] (mM enc x) = rM (.val (.int (x.left.length : Int))) (mM enc x) := by
    show rM (Sl.val (.int ((x.left.map enc).length : Int))) _ = _
    rw [List.length_map]
  have dc := mix_call (enc := enc) (x := x) (n := x.left.length) h (by omega)
  let x1 : Mx α := { x with d := (drawP x.left.length x.d).2 }
  let i := (drawP x.left.length x.d).1.toNat
  have pp : gPopAt (.own 2) [.val (.int (drawP x.left.length x.d).1)] (mM enc x1) = rM (.val (enc x.left[i])) (mM enc { x1 with left := x.left.eraseIdx i }) := by
    have e1 : (drawP x.left.length x.d).1 = ((i : Nat) : Int) := by show _ = (((drawP x.left.length x.d).1.toNat : Nat) : Int); omega
    rw [e1, popAt_own (ts := x.left.map enc) (t := enc x.left[i]) rfl (by rw [List.getElem?_map, List.getElem?_eq_getElem hi]; rfl) (by rw [List.length_map]; omega), erase_map]
    rfl
  have ap : gAppend (.own 3) [.val (enc x.left[i])] (mM enc { x1 with left := x.left.eraseIdx i }) = rM (.val .non) (mM enc (mixT x)) := by
    rw [app_own (ts := x.done.map enc) rfl (by rw [List.length_map]; omega)]
    have e2 : mixT x = { x1 with left := x.left.eraseIdx i, done := x.done ++ [x.left[i]] } := by
      unfold mixT
      simp only
      rw [List.getD_eq_getElem?_getD, List.getElem?_eq_getElem hi]
      rfl
    rw [e2]
    simp [mM, x1, dM]
  refine ⟨[some (.own 0), some (.val a0), some (.val t), some (.own 2), some (.own 3)], rfl, .inl ?_⟩
  have il : ∀ x : Mx α, isLst (.own 3) (mM enc x) = true := fun _ => rfl
  have il2 : ∀ x : Mx α, isLst (.own 2) (mM enc x) = true := fun _ => rfl
  simp! only [il, il2, if_true, ln, dc]
  have pp' : gPopAt (.own 2) [.val (.int (drawP x.left.length x.d).1)] (mM enc { x with d := (drawP x.left.length x.d).2 }) = rM (.val (enc x.left[i])) (mM enc { x1 with left := x.left.eraseIdx i }) := pp
  simp! only [pp', ap]
  rfl
theorem mix_loop {enc : α → T} {a0 : T} : ∀ (ts : List T) (x : Mx α), x.d.Ok → x.left.length = ts.length → x.left.length + x.done.length ≤ 900 →
    vLoop (vgName 2) (vBody [2] (vDrop (vMet gAppend (vVar 4) (vCons (vMet gPopAt (vVar 3) (vCons (vCall (f_draw c0) (vCons (vVar 0) (vCons (vB gLen (vCons (vVar 3) vNil)) vNil))) vNil)) vNil)))) ts ⟨[some (.own 0), some (.val a0), none, some (.own 2), some (.own 3)], mM enc x⟩ = some (.nx, ⟨[some (.own 0), some (.val a0), none, some (.own 2), some (.own 3)], mM enc (mixN ts.length x)⟩)
  | [], x, _, _, _ => rfl
  | t :: r, x, h, e, h9 => by
    have hl : x.left ≠ [] := by intro z; rw [z] at e; cases e
    obtain ⟨ρ1, e1, e2⟩ := mix_turn (enc := enc) (us := []) t a0 h hl h9
    obtain ⟨h1, h2, h3⟩ := mixT_ok h hl
    have hp := h2.length_eq
    rw [List.length_append, List.length_append] at hp
    have ih := mix_loop (enc := enc) (a0 := a0) r (mixT x) h1 (by simp at e; omega) (by omega)
    rw [vLoop, e1]
    rcases e2 with e2 | e2 <;> (simp only [e2]; exact ih)
theorem mixed_eq {xs : List α} {enc : α → T} {d : De} (h : d.Ok) (hl : xs.length ≤ 900) : f_mixed c0 [.own 0, .val (.lst (xs.map enc))] (dM d) = some (.ok (.val (.lst ((mixedP xs d).1.map enc))), dM (mixedP xs d).2) := by
  have hz : SZ = 1000000 := rfl
  let x0 : Mx α := ⟨xs, [], d⟩
  let ρ : List (Option Sl) := [some (.own 0), some (.val (.lst (xs.map enc))), none, some (.own 2), some (.own 3)]
  have li : vBN gListOf (vCons (vVar 1) vNil) ⟨[some (.own 0), some (.val (.lst (xs.map enc))), none, none, none], dM d⟩ = rM (xs.map enc) (dM d) := se_bN (sa_cons (se_var rfl) sa_nil) (by
    show (if (xs.map enc).length ≤ SZ then _ else _) = _
    rw [if_pos (by rw [List.length_map]; omega)])
  have s1 : vFrz 4 (vFrz 3 (vPar 3 4 (vCons (vOwn (vBN gListOf (vCons (vVar 1) vNil))) (vCons (vOwn (vLst vNil)) vNil)))) ⟨[some (.own 0), some (.val (.lst (xs.map enc))), none, none, none], dM d⟩ = some (.nx, ⟨ρ, mM enc x0⟩) := by
    show vPar 3 4 _ ⟨[some (.own 0), some (.val (.lst (xs.map enc))), none, none, none], dM d⟩ = _
    unfold vPar
    rw [sa_cons (se_own li) (sa_cons (se_own rfl) sa_nil)]
    rfl
  have it : vRange (vB gLen (vCons (vVar 3) vNil)) ⟨ρ, mM enc x0⟩ = rM ((List.range xs.length).map fun k : Nat => T.int (k : Int)) (mM enc x0) := by
    show bM (vB gLen (vCons (vVar 3) vNil) ⟨ρ, mM enc x0⟩) gRange = _
    rw [show vB gLen (vCons (vVar 3) vNil) ⟨ρ, mM enc x0⟩ = rM (.val (.int (xs.length : Int))) (mM enc x0) from by
      show rM (Sl.val (.int ((xs.map enc).length : Int))) _ = _
      rw [List.length_map]]
    exact range_ok (by omega)
  have L := mix_loop (enc := enc) (a0 := .lst (xs.map enc)) ((List.range xs.length).map fun k : Nat => T.int (k : Int)) x0 h (by simp [x0]) (by simp [x0]; omega)
  rw [List.length_map, List.length_range] at L
  obtain ⟨a1, a2, a3⟩ := mixN_ok xs.length (x := x0) h rfl
  refine (sd_rt (f := b_mixed c0) (a := .val (.lst ((mixedP xs d).1.map enc))) (s1 := ⟨[some (.own 0), some (.val (.lst (xs.map enc))), none, some (.own 2), some (.val (.lst ((mixedP xs d).1.map enc)))], dM (mixedP xs d).2 ++ [.lst ((mixN xs.length x0).left.map enc), .dead]⟩) ?_).trans rfl
  refine st_seq s1 (st_seq (s1 := ⟨ρ, mM enc (mixN xs.length x0)⟩) ?_ rfl)
  show vFor _ _ _ ⟨ρ, mM enc x0⟩ = _
  exact st_for it L
theorem mixed_call {xs : List α} {enc : α → T} {d : De} (h : d.Ok) (hl : xs.length ≤ 900) : callM (f_mixed c0) [.own 0, .val (.lst (xs.map enc))] (dM d) = rM (.val (.lst ((mixedP xs d).1.map enc))) (dM (mixedP xs d).2) := call_d rfl rfl (mixed_eq h hl)
end
end

end Vw.Pk
end
section
namespace Vw.Pk
open PySem PySem.Spec PyProof.Rows L2 Own Vs
inductive Sr where | keep | tries | limit | leave | soft | count | lend
deriving DecidableEq, Inhabited
def Sr.s : Sr → Str | .keep => "keep" | .tries => "tries" | .limit => "limit" | .leave => "leave" | .soft => "soft" | .count => "count" | .lend => "lend"
def Rw.sort : Rw → Sr | .keep .. => .keep | .tries .. => .tries | .limit .. => .limit | .leave => .leave | .soft .. => .soft | .count => .count | .lend => .lend
def lawT : Rw → T
  | .keep a l => .tup [.str "keep", .str (whS a), natT l]
  | .tries n a => .tup [.str "tries", .int n, .str (onS a)]
  | .limit n => .tup [.str "limit", .int n]
  | .soft a => .tup [.str "soft", .str (onS a)]
  | .leave => .tup [.str "leave"]
  | .count => .tup [.str "count"]
  | .lend => .tup [.str "lend"]
def lives : List (Option Nat) := [none, none, some 0, some 1, some 2, some 3]
def rowP (z : Sr) (d : De) : Rw × De := match z with
  | .keep => let a := pickP [false, true] d; let b := pickP lives a.2; (.keep a.1 b.1, b.2)
  | .tries => let a := drawP 3 d; let b := pickP [false, true] a.2; (.tries (a.1.toNat + 1) b.1, b.2)
  | .limit => let a := drawP 4 d; (.limit (a.1.toNat + 1), a.2)
  | .soft => let a := pickP [false, true] d; (.soft a.1, a.2)
  | .leave => (.leave, d)
  | .count => (.count, d)
  | .lend => (.lend, d)
def Rw.Drawn : Rw → Prop
  | .keep _ l => ∀ n, l = some n → n ≤ 3
  | .tries n _ => 1 ≤ n ∧ n ≤ 3
  | .limit n => 1 ≤ n ∧ n ≤ 4
  | _ => True
theorem row_ok {z : Sr} {d : De} (h : d.Ok) : (rowP z d).2.Ok ∧ (rowP z d).1.sort = z ∧ (rowP z d).1.Drawn := by
  cases z with
  | keep =>
    obtain ⟨_, h1⟩ := pick_ok (xs := [false, true]) h (by simp)
    obtain ⟨h2, h3⟩ := pick_ok (xs := lives) h1 (by simp [lives])
    refine ⟨h3, rfl, fun n e => ?_⟩
    have : (pickP lives (pickP [false, true] d).2).1 = some n := e
    rw [this] at h2
    simp [lives] at h2
    omega
  | tries =>
    obtain ⟨h1, h2, h3⟩ := draw_ok (n := 3) h (by decide)
    exact ⟨(pick_ok (xs := [false, true]) h1 (by simp)).2, rfl, by show 1 ≤ (drawP 3 d).1.toNat + 1 ∧ (drawP 3 d).1.toNat + 1 ≤ 3; omega⟩
  | limit =>
    obtain ⟨h1, h2, h3⟩ := draw_ok (n := 4) h (by decide)
    exact ⟨h1, rfl, by show 1 ≤ (drawP 4 d).1.toNat + 1 ∧ (drawP 4 d).1.toNat + 1 ≤ 4; omega⟩
  | soft => exact ⟨(pick_ok (xs := [false, true]) h (by simp)).2, rfl, trivial⟩
  | leave => exact ⟨h, rfl, trivial⟩
  | count => exact ⟨h, rfl, trivial⟩
  | lend => exact ⟨h, rfl, trivial⟩
section
variable {d : De} {m : List MO}
theorem sr_keep (z : Sr) : gDat PyData.eqv (.val (.str z.s)) (.val (.str "keep")) m = rM (.val (.bl (decide (z = .keep)))) m := by cases z <;> kernel_rfl
theorem sr_tries (z : Sr) : gDat PyData.eqv (.val (.str z.s)) (.val (.str "tries")) m = rM (.val (.bl (decide (z = .tries)))) m := by cases z <;> kernel_rfl
theorem sr_limit (z : Sr) : gDat PyData.eqv (.val (.str z.s)) (.val (.str "limit")) m = rM (.val (.bl (decide (z = .limit)))) m := by cases z <;> kernel_rfl
theorem sr_soft (z : Sr) : gDat PyData.eqv (.val (.str z.s)) (.val (.str "soft")) m = rM (.val (.bl (decide (z = .soft)))) m := by cases z <;> kernel_rfl
theorem row_eq (z : Sr) (h : d.Ok) : f_row c0 [.own 0, .val (.str z.s)] (dM d) = some (.ok (.val (lawT (rowP z d).1)), dM (rowP z d).2) := by
  have pw : ∀ {d : De}, d.Ok → callM (f_pick c0) [.own 0, .val (.lst [.str "good", .str "all"])] (dM d) = rM (.val (.str (whS (pickP [false, true] d).1))) (dM (pickP [false, true] d).2) := fun {d} h => pick_call (xs := [false, true]) (enc := fun b => T.str (whS b)) h (by simp) (by simp)
  have po : ∀ {d : De}, d.Ok → callM (f_pick c0) [.own 0, .val (.lst [.str "fault", .str "all"])] (dM d) = rM (.val (.str (onS (pickP [false, true] d).1))) (dM (pickP [false, true] d).2) := fun {d} h => pick_call (xs := [false, true]) (enc := fun b => T.str (onS b)) h (by simp) (by simp)
  have pl : ∀ {d : De}, d.Ok → callM (f_pick c0) [.own 0, .val (.lst [.non, .non, .int 0, .int 1, .int 2, .int 3])] (dM d) = rM (.val (natT (pickP lives d).1)) (dM (pickP lives d).2) := fun {d} h => pick_call (xs := lives) (enc := natT) h (by simp [lives]) (by simp [lives])
  have l6 : ∀ m, gNew [.val .non, .val .non, .val (.int 0), .val (.int 1), .val (.int 2), .val (.int 3)] m = rM [.non, .non, .int 0, .int 1, .int 2, .int 3] m := fun _ => rfl
  cases z with
  | keep =>
    have p1 := pw h
    have p2 := pl (pick_ok (xs := [false, true]) h (by simp)).2
    simp! only [f_row, b_row, dEq, sr_keep, decide_true, if_true, p1, l6, p2]
    rfl
  | tries =>
    obtain ⟨h1, h2, h3⟩ := draw_ok (n := 3) h (by decide)
    have p1 := draw_call (n := 3) h (by decide)
    have p2 := po h1
    have e : (1 : Int) + (drawP 3 d).1 = (((drawP 3 d).1.toNat + 1 : Nat) : Int) := by omega
    simp! only [f_row, b_row, dEq, sr_keep, sr_tries, decide_true, if_true, reduceCtorEq, decide_false, Bool.false_eq_true, if_false, p1, p2, e]
    rfl
  | limit =>
    obtain ⟨h1, h2, h3⟩ := draw_ok (n := 4) h (by decide)
    have p1 := draw_call (n := 4) h (by decide)
    have e : (1 : Int) + (drawP 4 d).1 = (((drawP 4 d).1.toNat + 1 : Nat) : Int) := by omega
    simp! only [f_row, b_row, dEq, sr_keep, sr_tries, sr_limit, decide_true, if_true, reduceCtorEq, decide_false, Bool.false_eq_true, if_false, p1, e]
    rfl
  | soft =>
    have p1 := po h
    simp! only [f_row, b_row, dEq, sr_keep, sr_tries, sr_limit, sr_soft, decide_true, if_true, reduceCtorEq, decide_false, Bool.false_eq_true, if_false, p1]
    rfl
  | _ =>
    simp! only [f_row, b_row, dEq, sr_keep, sr_tries, sr_limit, sr_soft, decide_true, if_true, reduceCtorEq, decide_false, Bool.false_eq_true, if_false]
    rfl
theorem row_call (z : Sr) (h : d.Ok) : callM (f_row c0) [.own 0, .val (.str z.s)] (dM d) = rM (.val (lawT (rowP z d).1)) (dM (rowP z d).2) := call_d rfl rfl (row_eq z h)
end
def mapS {α β σ : Type} (f : α → σ → β × σ) : List α → σ → List β × σ
  | [], s => ([], s)
  | a :: r, s => let x := f a s; let y := mapS f r x.2; (x.1 :: y.1, y.2)
theorem coll_st {α β σ : Type} {g : VG} {te : VE} {ρ : List (Option Sl)} {t : α → T} {u : β → T} {M : σ → List MO} {f : α → σ → β × σ} (I : σ → Prop) : ∀ (xs : List α) (s : σ) (acc : List T), I s → (∀ x ∈ xs, ∀ s, I s → ∃ ρ1, g (t x) ρ = some ρ1 ∧ te ⟨ρ1, M s⟩ = rM (.val (u (f x s).1)) (M (f x s).2) ∧ I (f x s).2) → acc.length + xs.length ≤ SZ →
    vColl g vYes te ρ (xs.map t) (M s) acc = rM (acc ++ (mapS f xs s).1.map u) (M (mapS f xs s).2) ∧ I (mapS f xs s).2
  | [], s, acc, i, _, _ => ⟨by simp [vColl, mapS], i⟩
  | x :: r, s, acc, i, h, hz => by
    obtain ⟨ρ1, e1, e2, i2⟩ := h x (List.mem_cons_self ..) s i
    rw [List.length_cons] at hz
    obtain ⟨ih, i3⟩ := coll_st I r (f x s).2 (acc ++ [u (f x s).1]) i2 (fun y hy => h y (List.mem_cons_of_mem _ hy)) (by rw [List.length_append, List.length_singleton]; omega)
    refine ⟨?_, i3⟩
    rw [List.map_cons, vColl, e1]
    simp only [vYes, e2]
    rw [if_pos (by omega), ih]
    simp [mapS]
def sorts12 : List Sr := [.keep, .tries, .limit, .leave, .soft, .count, .lend, .keep, .tries, .soft, .count, .leave]
def rowsP (n : Nat) (d : De) : List Rw × De := let x := mixedP sorts12 d; mapS rowP (x.1.take n) x.2
theorem mapS_ok : ∀ (zs : List Sr) {d : De}, d.Ok → (mapS rowP zs d).2.Ok ∧ (mapS rowP zs d).1.map Rw.sort = zs ∧ ∀ r ∈ (mapS rowP zs d).1, r.Drawn
  | [], d, h => ⟨h, rfl, fun _ h => nomatch h⟩
  | z :: r, d, h => by
    obtain ⟨h1, h2, h3⟩ := row_ok (z := z) h
    obtain ⟨a1, a2, a3⟩ := mapS_ok r h1
    refine ⟨a1, by simp [mapS, h2, a2], fun x hx => ?_⟩
    rcases List.mem_cons.mp hx with rfl | hx
    · exact h3
    · exact a3 x hx
theorem rows_ok {n : Nat} {d : De} (h : d.Ok) : (rowsP n d).2.Ok ∧ (∃ zs : List Sr, zs.Perm sorts12 ∧ (rowsP n d).1.map Rw.sort = zs.take n) ∧ ∀ r ∈ (rowsP n d).1, r.Drawn := by
  obtain ⟨h1, h2⟩ := mixed_ok (xs := sorts12) h
  obtain ⟨a1, a2, a3⟩ := mapS_ok ((mixedP sorts12 d).1.take n) h1
  exact ⟨a1, ⟨_, h2, a2⟩, a3⟩
theorem rows_eq {n : Nat} {d : De} (h : d.Ok) : Vw.f_rows c0 [.own 0, .val (.int n)] (dM d) = some (.ok (.val (.lst ((rowsP n d).1.map lawT))), dM (rowsP n d).2) := by
  have hz : SZ = 1000000 := rfl
  let S : T := .lst (sorts12.map fun z => T.str z.s)
  let x := mixedP sorts12 d
  obtain ⟨h1, h2⟩ := mixed_ok (xs := sorts12) h
  have mc := mixed_call (xs := sorts12) (enc := fun z : Sr => T.str z.s) h (by decide)
  have hl : x.1.length = 12 := h2.length_eq
  let ρ : List (Option Sl) := [some (.own 0), some (.val (.int n)), some (.val S), none]
  have it : vItems (vVal (vSliceL (vCall (f_mixed c0) (vCons (vVar 0) (vCons (vVar 2) vNil))) vNoPart (vPart (vVar 1)))) ⟨ρ, dM d⟩ = rM ((x.1.take n).map fun z => T.str z.s) (dM x.2) := by
    have sl : vSliceL (vCall (f_mixed c0) (vCons (vVar 0) (vCons (vVar 2) vNil))) vNoPart (vPart (vVar 1)) ⟨ρ, dM d⟩ = rM ((x.1.take n).map fun z => T.str z.s) (dM x.2) := by
      have c1 : vCall (f_mixed c0) (vCons (vVar 0) (vCons (vVar 2) vNil)) ⟨ρ, dM d⟩ = rM (.val (.lst (x.1.map fun z => T.str z.s))) (dM x.2) := se_call rfl mc
      unfold vSliceL
      rw [c1]
      show (if (x.1.map fun z => T.str z.s).length ≤ SZ then rM (cutT (x.1.map fun z => T.str z.s) none (some (n : Int))) (dM x.2) else none) = _
      rw [if_pos (by rw [List.length_map, hl]; omega), cut_take, List.map_take]
    exact si_items (se_val sl) rfl
  obtain ⟨cs, _⟩ := coll_st (g := vgName 3) (te := vCall (f_row c0) (vCons (vVar 0) (vCons (vVar 3) vNil))) (ρ := wipeS ρ [3]) (t := fun z : Sr => T.str z.s) (u := lawT) (M := dM) (f := rowP) De.Ok (x.1.take n) x.2 [] h1 (fun z _ d hd => ⟨[some (.own 0), some (.val (.int n)), some (.val S), some (.val (.str z.s))], rfl, se_call rfl (row_call z hd), (row_ok hd).1⟩) (by rw [List.length_take]; simp; omega)
  have c2 : vComp [3] (vItems (vVal (vSliceL (vCall (f_mixed c0) (vCons (vVar 0) (vCons (vVar 2) vNil))) vNoPart (vPart (vVar 1))))) (vgName 3) vYes (vCall (f_row c0) (vCons (vVar 0) (vCons (vVar 3) vNil))) ⟨ρ, dM d⟩ = rM ((rowsP n d).1.map lawT) (dM (rowsP n d).2) := by
    unfold vComp
    rw [it]
    refine cs.trans ?_
    rw [List.nil_append]
    rfl
  refine (sd_rt (f := b_rows c0) (a := .val (.lst ((rowsP n d).1.map lawT))) (s1 := ⟨ρ, dM (rowsP n d).2⟩) ?_).trans rfl
  exact st_seq (s1 := ⟨ρ, dM d⟩) rfl (st_ret (se_val c2))
end Vw.Pk
end
section
namespace Vw.Pk
open PySem PySem.Spec PyProof.Rows L2 Own Vs
def allRows : List Rw := [.keep false none, .keep true none, .keep false (some 0), .keep true (some 0), .keep false (some 1), .keep true (some 1), .keep false (some 2), .keep true (some 2), .keep false (some 3), .keep true (some 3),
  .tries 1 false, .tries 1 true, .tries 2 false, .tries 2 true, .tries 3 false, .tries 3 true, .limit 1, .limit 2, .limit 3, .limit 4, .leave, .soft false, .soft true, .count, .lend]
theorem mem_all {r : Rw} (h : r.Drawn) : r ∈ allRows := by
  cases r with
  | keep a l =>
    cases l with
    | none => cases a <;> simp [allRows]
    | some n =>
      have := h n rfl
      have hn : n = 0 ∨ n = 1 ∨ n = 2 ∨ n = 3 := by omega
      rcases hn with rfl | rfl | rfl | rfl <;> cases a <;> simp [allRows]
  | tries n a =>
    have : 1 ≤ n ∧ n ≤ 3 := h
    have hn : n = 1 ∨ n = 2 ∨ n = 3 := by omega
    rcases hn with rfl | rfl | rfl <;> cases a <;> simp [allRows]
  | limit n =>
    have : 1 ≤ n ∧ n ≤ 4 := h
    have hn : n = 1 ∨ n = 2 ∨ n = 3 ∨ n = 4 := by omega
    rcases hn with rfl | rfl | rfl | rfl <;> simp [allRows]
  | soft a => cases a <;> simp [allRows]
  | _ => simp [allRows]
def rowS : Rw → Str
  | .keep a none => "keep " ++ whS a ++ " ever"
  | .keep a (some n) => "keep " ++ whS a ++ " " ++ toString (n : Int)
  | .tries n a => "tries " ++ toString (n : Int) ++ " " ++ onS a
  | .limit n => "limit " ++ toString (n : Int)
  | .leave => "leave"
  | .soft a => "soft " ++ onS a
  | .count => "count"
  | .lend => "lend"
theorem text_all : ∀ r ∈ allRows, f_row_text c0 [.val (lawT r)] [] = some (.ok (.val (.str (rowS r))), []) := by
  intro r hr
  simp only [allRows, List.mem_cons, List.not_mem_nil, or_false] at hr
  rcases hr with rfl | rfl | rfl | rfl | rfl | rfl | rfl | rfl | rfl | rfl | rfl | rfl | rfl | rfl | rfl | rfl | rfl | rfl | rfl | rfl | rfl | rfl | rfl | rfl | rfl <;> kernel_rfl
theorem read_all : ∀ r ∈ allRows, f_Row_read c0 [.val (.cst (.ref c0.Row)), .val (.str (rowS r))] [] = some (.ok (.val r.t), []) := by
  intro r hr
  simp only [allRows, List.mem_cons, List.not_mem_nil, or_false] at hr
  rcases hr with rfl | rfl | rfl | rfl | rfl | rfl | rfl | rfl | rfl | rfl | rfl | rfl | rfl | rfl | rfl | rfl | rfl | rfl | rfl | rfl | rfl | rfl | rfl | rfl | rfl <;> kernel_rfl
theorem made_eq {rs : List Rw} (h : ∀ r ∈ rs, r.Drawn) (hl : rs.length ≤ 900) : f_made_rows c0 [.val (.lst (rs.map lawT))] [] = some (.ok (.val (.lst (rs.map Rw.t))), []) := by
  have hz : SZ = 1000000 := rfl
  have c1 : vComp [1] (vItems (vVar 0)) (vgName 1) vYes (vCMeth c0.Row (f_Row_read c0) (vCons (vCall (f_row_text c0) (vCons (vVar 1) vNil)) vNil)) ⟨[some (.val (.lst (rs.map lawT))), none], []⟩ = rM (rs.map Rw.t) [] :=
    comp_map (xs := rs) (t := lawT) rfl (fun r hr => ⟨[some (.val (.lst (rs.map lawT))), some (.val (lawT r))], rfl, by
      have t1 : callM (f_row_text c0) [.val (lawT r)] [] = rM (.val (.str (rowS r))) [] := call_vals (text_all r (mem_all (h r hr))) rfl rfl
      have t2 : callM (f_Row_read c0) [.val (.cst (.ref c0.Row)), .val (.str (rowS r))] [] = rM (.val r.t) [] := call_vals (read_all r (mem_all (h r hr))) rfl rfl
      show bM (vCons (vCall (f_row_text c0) (vCons (vVar 1) vNil)) vNil ⟨_, []⟩) _ = _
      rw [sa_cons (se_call rfl t1) sa_nil]
      exact t2⟩) (by omega)
  refine (sd_rt (f := b_made_rows c0) (a := .val (.lst (rs.map Rw.t))) (s1 := ⟨[some (.val (.lst (rs.map lawT))), none], []⟩) ?_).trans rfl
  exact st_ret (se_val c1)
def lotR : Rw → Rw
  | .keep a (some 2) => .keep a (some 0)
  | .keep a (some 3) => .keep a (some 1)
  | .tries 3 a => .tries 2 a
  | r => r
def keeps2 (rs : List Rw) : Nat := (rs.filter fun r => r.isKeep).length
def cut3 (rs : List Rw) : List Rw := if 1 < keeps2 rs then rs.take 3 else rs
def lotP (n : Nat) (d : De) : List Rw × De := let x := rowsP n d; (cut3 (x.1.map lotR), x.2)
theorem put_rest {k : Nat} {sub : List MO} : ∀ (X : List MO) (i : Nat), 2 ≤ i → putFrom [0, 1] k sub X i = X
  | [], _, _ => rfl
  | o :: r, i, h => by
    unfold putFrom
    rw [put_rest r (i + 1) (by omega)]
    have : ixOf [0, 1] i = none := by
      unfold ixOf
      rw [if_neg (by omega)]
      unfold ixOf
      rw [if_neg (by omega)]
      rfl
    rw [this]
theorem call_dX {vf : VF} {vals : List Sl} {t : T} {d d' : De} (X : List MO) (hv : owns vals = []) (hr : renSs [0, 1] vals = some vals) (h : vf (.own 0 :: vals) (dM d) = some (.ok (.val t), dM d')) : callM vf (.own 0 :: vals) (dM d ++ X) = rM (.val t) (dM d' ++ X) := by
  unfold callM
  rw [show owns (.own 0 :: vals) = 0 :: owns vals from rfl, hv]
  rw [show grow (dM d ++ X) 100 [0] [] = [0, 1] from rfl]
  simp only [show [0, 1].Nodup from by decide, if_true]
  rw [show renMs [0, 1] (dM d ++ X) [0, 1] = some (dM d) from rfl]
  have : renSs [0, 1] (.own 0 :: vals) = some (.own 0 :: vals) := by
    show (match renS [0, 1] (.own 0), renSs [0, 1] vals with
      | some t, some u => some (t :: u)
      | _, _ => none) = _
    rw [hr]
    rfl
  rw [this]
  simp only [h]
  rw [if_pos (show ([0, 1] : List Nat).length ≤ (dM d').length from Nat.le_refl _)]
  have e : Vs.putAll [0, 1] (dM d ++ X) (dM d') = dM d' ++ X := by
    unfold Vs.putAll
    rw [show (dM d').drop ([0, 1] : List Nat).length = [] from rfl, List.map_nil, List.append_nil]
    have r := put_rest (k := (dM d ++ X).length) (sub := dM d') X 2 (Nat.le_refl _)
    show _ :: _ :: putFrom [0, 1] _ (dM d') X 2 = _
    rw [r]
    rfl
  rw [e]
  rfl
def adjA : VS := (vIf (vAnd (vTest (vBin dEq (vBin gIx (vVar 3) (vC (.int 0))) (vC (.str "keep")))) (vTest (vBin (gInFlat false) (vBin gIx (vVar 3) (vC (.int 2))) (vTup (vCons (vC (.int 2)) (vCons (vC (.int 3)) vNil)))))) (vSet 3 (vTup (vCons (vBin gIx (vVar 3) (vC (.int 0))) (vCons (vBin gIx (vVar 3) (vC (.int 1))) (vCons (vBin dSub (vBin gIx (vVar 3) (vC (.int 2))) (vC (.int 2))) vNil))))) vNext)
def adjB : VS := (vIf (vAnd (vTest (vBin dEq (vBin gIx (vVar 3) (vC (.int 0))) (vC (.str "tries")))) (vTest (vBin dEq (vBin gIx (vVar 3) (vC (.int 1))) (vC (.int 3))))) (vSet 3 (vTup (vCons (vBin gIx (vVar 3) (vC (.int 0))) (vCons (vC (.int 2)) (vCons (vBin gIx (vVar 3) (vC (.int 2))) vNil))))) vNext)
def adjD : VS := (vDrop (vMet gAppend (vVar 2) (vCons (vVar 3) vNil)))
def adjS : VS := vSeq adjA adjB
theorem seq_assoc {A B C : VS} {s s1 s2 : S} (h1 : vSeq A B s = some (.nx, s1)) (h2 : C s1 = some (.nx, s2)) : vSeq A (vSeq B C) s = some (.nx, s2) := by
  rw [e_vSeq] at h1 ⊢
  generalize A s = x at h1 ⊢
  match x, h1 with
  | some (.nx, s'), h1 =>
    show kSeq C (B s') = _
    have h1' : B s' = some (.nx, s1) := h1
    rw [h1']
    exact h2
  | none, h1 => cases h1
  | some (.bk, _), h1 => cases h1
  | some (.ct, _), h1 => cases h1
  | some (.rt _, _), h1 => cases h1
  | some (.ex _ _, _), h1 => cases h1
theorem body_nx {L : List Nat} {f : VS} {s s1 : S} (h : f s = some (.nx, s1)) : vBody L f s = some (.nx, cutSt s.m.length ⟨Vs.wipe L s1.ρ, s1.m⟩) := by
  unfold vBody; rw [h]
theorem adj_all (a0 a1 a2 : Option Sl) (m : List MO) : ∀ r ∈ allRows, adjS ⟨[a0, a1, a2, some (.val (lawT r))], m⟩ = some (.nx, ⟨[a0, a1, a2, some (.val (lawT (lotR r)))], m⟩) := by
  intro r hr
  simp only [allRows, List.mem_cons, List.not_mem_nil, or_false] at hr
  rcases hr with rfl | rfl | rfl | rfl | rfl | rfl | rfl | rfl | rfl | rfl | rfl | rfl | rfl | rfl | rfl | rfl | rfl | rfl | rfl | rfl | rfl | rfl | rfl | rfl | rfl <;> kernel_rfl
theorem isk_all (m : List MO) : ∀ r ∈ allRows, vTest (vBin dEq (vBin gIx (vVar 3) (vC (.int 0))) (vC (.str "keep"))) ⟨[none, none, none, some (.val (lawT (lotR r)))], m⟩ = rM (lotR r).isKeep m := by
  intro r hr
  simp only [allRows, List.mem_cons, List.not_mem_nil, or_false] at hr
  rcases hr with rfl | rfl | rfl | rfl | rfl | rfl | rfl | rfl | rfl | rfl | rfl | rfl | rfl | rfl | rfl | rfl | rfl | rfl | rfl | rfl | rfl | rfl | rfl | rfl | rfl <;> kernel_rfl

theorem drawn_lot {r : Rw} (h : r.Drawn) : (lotR r).Drawn ∧ (lotR r).sort = r.sort ∧ (∀ a n, lotR r = .keep a (some n) → n ≤ 1) ∧ (∀ n a, lotR r = .tries n a → n ≤ 2) := by
  have h0 := mem_all h
  simp only [allRows, List.mem_cons, List.not_mem_nil, or_false] at h0
  rcases h0 with rfl | rfl | rfl | rfl | rfl | rfl | rfl | rfl | rfl | rfl | rfl | rfl | rfl | rfl | rfl | rfl | rfl | rfl | rfl | rfl | rfl | rfl | rfl | rfl | rfl <;> simp [lotR, Rw.Drawn, Rw.sort]
theorem cut3_take {rs : List Rw} (f : Rw → T) : (if 1 < keeps2 rs then (rs.map f).take 3 else rs.map f) = (cut3 rs).map f := by
  unfold cut3
  split <;> simp [List.map_take]
def bLot : VS := (vBody [3] (vSeq adjA (vSeq adjB adjD)))
def stLot (n : Nat) (d : De) (us : List Rw) : S := ⟨[some (.own 0), some (.val (.int n)), some (.own 2), none], dM d ++ [.lst (us.map lawT)]⟩
def fLot (us : List Rw) (r : Rw) : (Fl × S) ⊕ List Rw := .inr (us ++ [lotR r])
theorem lot_turn {d : De} {n : Nat} {r : Rw} (hr : r.Drawn) {us : List Rw} (hu : us.length ≤ 900) : Turn (stLot n d) (vgName 3) bLot us (lawT r) (fLot us r) := by
  have hz : SZ = 1000000 := rfl
  refine ⟨[some (.own 0), some (.val (.int n)), some (.own 2), some (.val (lawT r))], rfl, .inl ?_⟩
  show bLot ⟨[some (.own 0), some (.val (.int n)), some (.own 2), some (.val (lawT r))], dM d ++ [.lst (us.map lawT)]⟩ = some (.nx, ⟨[some (.own 0), some (.val (.int n)), some (.own 2), none], dM d ++ [.lst ((us ++ [lotR r]).map lawT)]⟩)
  have ad := adj_all (some (.own 0)) (some (.val (.int n))) (some (.own 2)) (dM d ++ [.lst (us.map lawT)]) r (mem_all hr)
  have ap : gAppend (.own 2) [.val (lawT (lotR r))] (dM d ++ [.lst (us.map lawT)]) = rM (.val .non) (dM d ++ [.lst ((us ++ [lotR r]).map lawT)]) := by
    rw [app_own (ts := us.map lawT) rfl (by rw [List.length_map]; omega)]
    simp [dM]
  have il : isLst (.own 2) (dM d ++ [.lst (us.map lawT)]) = true := rfl
  have dr : adjD ⟨[some (.own 0), some (.val (.int n)), some (.own 2), some (.val (lawT (lotR r)))], dM d ++ [.lst (us.map lawT)]⟩ = some (.nx, ⟨[some (.own 0), some (.val (.int n)), some (.own 2), some (.val (lawT (lotR r)))], dM d ++ [.lst ((us ++ [lotR r]).map lawT)]⟩) :=
    st_drop (se_met (a := .own 2) rfl il (sa_cons rfl sa_nil) ap)
  exact (body_nx (seq_assoc ad dr)).trans rfl
theorem lot_eq {n : Nat} {d : De} (h : d.Ok) : f_lot_rows c0 [.own 0, .val (.int n)] (dM d) = some (.ok (.val (.lst ((lotP n d).1.map lawT))), dM (lotP n d).2) := by
  have hz : SZ = 1000000 := rfl
  have ro := rows_ok (n := n) h
  have re := rows_eq (n := n) h
  have elp : lotP n d = (cut3 ((rowsP n d).1.map lotR), (rowsP n d).2) := rfl
  rw [elp]
  generalize rowsP n d = x at ro re
  obtain ⟨rs, d1⟩ := x
  obtain ⟨h1, ⟨zs, hp, hs⟩, hd⟩ := ro
  simp only at h1 hs hd re
  have hl : rs.length ≤ 12 := by
    have : rs.length = (rs.map Rw.sort).length := by simp
    rw [this, hs, List.length_take, hp.length_eq]
    show min n 12 ≤ 12
    omega
  have rc := call_dX [.lst []] rfl rfl re
  have L := loop_runI (St := stLot n d1) (g := vgName 3) (b := bLot) lawT fLot (fun k us => us.length = k) 12 rs 0 [] rfl (by omega) (fun k us r hk e hr => ⟨lot_turn (hd r hr) (by omega), fun us' z => by cases z; simp [e]⟩)
  rw [show fLot = (fun us r => .inr (us ++ [lotR r])) from rfl] at L
  rw [runX_fold] at L
  have ef : ∀ (rs us : List Rw), rs.foldl (fun us r => us ++ [lotR r]) us = us ++ rs.map lotR := fun rs => by
    induction rs with
    | nil => simp
    | cons r rs ih => intro us; rw [List.foldl_cons, ih]; simp
  rw [ef, List.nil_append] at L
  let us := rs.map lotR
  have hu : us.length ≤ 12 := by show (rs.map lotR).length ≤ 12; rw [List.length_map]; exact hl
  have fr : ∀ r ∈ us, ∃ r0 ∈ allRows, r = lotR r0 := fun r hr => by
    obtain ⟨r0, h0, rfl⟩ := List.mem_map.mp hr
    exact ⟨r0, mem_all (hd r0 h0), rfl⟩
  let ρ : List (Option Sl) := [some (.own 0), some (.val (.int n)), some (.val (.lst (us.map lawT))), none]
  have ck : vComp [3] (vItems (vVar 2)) (vgName 3) (vTest (vBin dEq (vBin gIx (vVar 3) (vC (.int 0))) (vC (.str "keep")))) (vVar 3) ⟨ρ, dM d1 ++ [.dead]⟩ = rM (us.filterMap fun r => if r.isKeep then some (lawT r) else none) (dM d1 ++ [.dead]) :=
    comp_fmap (xs := us) (t := lawT) rfl (fun r hr => ⟨[some (.own 0), some (.val (.int n)), some (.val (.lst (us.map lawT))), some (.val (lawT r))], rfl, by
      obtain ⟨r0, h0, rfl⟩ := fr r hr
      have t : vTest (vBin dEq (vBin gIx (vVar 3) (vC (.int 0))) (vC (.str "keep"))) ⟨[some (.own 0), some (.val (.int n)), some (.val (.lst (us.map lawT))), some (.val (lawT (lotR r0)))], dM d1 ++ [.dead]⟩ = rM (lotR r0).isKeep (dM d1 ++ [.dead]) := isk_all _ r0 h0
      cases q : (lotR r0).isKeep with
      | true => rw [q] at t; exact ⟨t, rfl⟩
      | false => rw [q] at t; exact t⟩) (Nat.le_trans hu (by decide))
  rw [filterMap_filter] at ck
  have s1 : vSet 2 (vOwn (vLst vNil)) ⟨[some (.own 0), some (.val (.int n)), none, none], dM d⟩ = some (.nx, ⟨[some (.own 0), some (.val (.int n)), some (.own 2), none], dM d ++ [.lst []]⟩) := rfl
  have s2 : vPre [3] (vFor (vItems (vCall (Vw.f_rows c0) (vCons (vVar 0) (vCons (vVar 1) vNil)))) (vgName 3) bLot) ⟨[some (.own 0), some (.val (.int n)), some (.own 2), none], dM d ++ [.lst []]⟩ = some (.nx, ⟨[some (.own 0), some (.val (.int n)), some (.own 2), none], dM d1 ++ [.lst (us.map lawT)]⟩) := by
    show vFor _ _ _ ⟨[some (.own 0), some (.val (.int n)), some (.own 2), none], dM d ++ [.lst []]⟩ = _
    exact st_for (si_items (se_call rfl rc) rfl) L
  refine (sd_rt (f := b_lot_rows c0) (a := .val (.lst ((cut3 (rs.map lotR)).map lawT))) (s1 := ⟨ρ, dM d1 ++ [.dead]⟩) ?_).trans (by rw [show (({ ρ := ρ, m := dM d1 ++ [.dead] } : S)).m = dM d1 ++ [.dead] from rfl, cut_d1])
  refine st_seq s1 (st_seq s2 ?_)
  show vRet _ ⟨ρ, dM d1 ++ [.dead]⟩ = _
  refine st_ret ?_
  have e0 : decide (1 < keeps2 us) = decide ((1 : Int) < ((((us.filter fun r => r.isKeep).map lawT).length : Nat) : Int)) := by
    simp only [keeps2, List.length_map]
    exact decide_eq_decide.mpr (by omega)
  have ct : vTest (vBin dGt (vB gLen (vCons (vVal (vComp [3] (vItems (vVar 2)) (vgName 3) (vTest (vBin dEq (vBin gIx (vVar 3) (vC (.int 0))) (vC (.str "keep")))) (vVar 3))) vNil)) (vC (.int 1))) ⟨ρ, dM d1 ++ [.dead]⟩ = rM (decide (1 < keeps2 us)) (dM d1 ++ [.dead]) := by
    rw [e0]
    exact sc_test (se_bin (se_b (sa_cons (se_val ck) sa_nil) rfl) rfl rfl)
  have sl : vVal (vSliceL (vVar 2) vNoPart (vPart (vC (.int 3)))) ⟨ρ, dM d1 ++ [.dead]⟩ = rM (.val (.lst ((us.map lawT).take 3))) (dM d1 ++ [.dead]) := by
    refine se_val ?_
    show (if (us.map lawT).length ≤ SZ then rM (cutT (us.map lawT) none (some ((3 : Nat) : Int))) (dM d1 ++ [.dead]) else none) = _
    rw [if_pos (by rw [List.length_map]; omega), cut_take]
  have fin : vIfE (vTest (vBin dGt (vB gLen (vCons (vVal (vComp [3] (vItems (vVar 2)) (vgName 3) (vTest (vBin dEq (vBin gIx (vVar 3) (vC (.int 0))) (vC (.str "keep")))) (vVar 3))) vNil)) (vC (.int 1)))) (vVal (vSliceL (vVar 2) vNoPart (vPart (vC (.int 3))))) (vVar 2) ⟨ρ, dM d1 ++ [.dead]⟩ = rM (.val (.lst ((cut3 us).map lawT))) (dM d1 ++ [.dead]) := by
    rw [← cut3_take]
    by_cases z : 1 < keeps2 us
    · rw [decide_eq_true z] at ct
      rw [if_pos z]
      exact se_if ct sl
    · rw [decide_eq_false z] at ct
      rw [if_neg z]
      exact se_ifn ct rfl
  exact fin

end Vw.Pk
end
section
namespace Vw.Pk
open PySem PySem.Spec PyProof.Rows L2 Own Vs
def lM (d : De) : List MO := [.lst (d.g.reverse.map T.int), .rcd [("great", .own 0), ("mixed", .val (.int d.x))]]
theorem call_l {vf : VF} {vals : List Sl} {t : T} {d d' : De} (hv : owns vals = []) (hr : renSs [1, 0] vals = some vals) (h : vf (.own 0 :: vals) (dM d) = some (.ok (.val t), dM d')) : callM vf (.own 1 :: vals) (lM d) = rM (.val t) (lM d') := by
  unfold callM
  rw [show owns (.own 1 :: vals) = 1 :: owns vals from rfl, hv]
  rw [show grow (lM d) 100 [1] [] = [1, 0] from rfl]
  simp only [show [1, 0].Nodup from by decide, if_true]
  rw [show renMs [1, 0] (lM d) [1, 0] = some (dM d) from rfl]
  have : renSs [1, 0] (.own 1 :: vals) = some (.own 0 :: vals) := by
    show (match renS [1, 0] (.own 1), renSs [1, 0] vals with
      | some t, some u => some (t :: u)
      | _, _ => none) = _
    rw [hr]
    rfl
  rw [this]
  simp only [h]
  rw [if_pos (show ([1, 0] : List Nat).length ≤ (dM d').length from Nat.le_refl _)]
  rfl
def absI (i : Int) : Int := if i < 0 then -i else i
def stirP (x c : Int) : Int := (x * 30671 + c % 2147483423 + 31) % 2147483647
def bStir : VS := (vBody [4] (vSet 3 (vBin dMod (vB gInt1 (vCons (vBin gAdd (vBin gAdd (vBin dMul (vVar 3) (vC (.int 30671))) (vBin dMod (vB gInt1 (vCons (vVar 4) vNil)) (vC (.int 2147483423)))) (vC (.int 31))) vNil)) (vC (.int 2147483647)))))
def stStir (t0 t1 t2 : T) (x : Int) : S := ⟨[some (.val t0), some (.val t1), some (.val t2), some (.val (.int x)), none], []⟩
theorem stir_turn (t0 t1 t2 : T) (x c : Int) : Turn (stStir t0 t1 t2) (vgName 4) bStir x (.int c) (.inr (stirP x c)) := by
  refine ⟨[some (.val t0), some (.val t1), some (.val t2), some (.val (.int x)), some (.val (.int c))], rfl, .inl ?_⟩
  refine (body_nx (st_set (a := .val (.int (stirP x c))) (m := []) (se_bin (se_b (sa_cons (se_bin (se_bin (se_bin (se_var rfl) se_c (gIntC_ok (by unfold cMul; simp))) (se_bin (se_b (sa_cons (se_var rfl) sa_nil) rfl) se_c (gIntC_ok rfl)) rfl) se_c rfl) sa_nil) rfl) se_c (gIntC_ok rfl)))).trans ?_
  rfl
theorem source_eq {ns : List Int} {b : Nat} (hl : ns.length ≤ 900) (hb : b ≤ 1000) : ∃ d : De, d.Ok ∧ f_source c0 [.val (.seq (ns.map T.int)), .val (.int (b : Int))] [] = some (.ok (.own 1), lM d) := by
  have sz : SZ = 1000000 := rfl
  obtain ⟨ks, ec, lk⟩ : ∃ ks : List Int, cutT (ns.map T.int) (some (b : Int)) (some 62) = ks.map T.int ∧ ks.length ≤ ns.length := by
    refine ⟨(ns.drop (HT.sIx (ns.map T.int).length 0 (some (b : Int)))).take (HT.sIx (ns.map T.int).length (ns.map T.int).length (some 62) - HT.sIx (ns.map T.int).length 0 (some (b : Int))), ?_, ?_⟩
    · unfold cutT
      rw [List.map_take, List.map_drop]
    · rw [List.length_take, List.length_drop]
      omega
  let cs := ks.map absI
  have lc : cs.length = ks.length := by simp [cs]
  let s0 : List (Option Sl) := [some (.val (.seq (ns.map T.int))), some (.val (.int b)), none, none, none]
  have sl : vSliceL (vVar 0) (vPart (vVar 1)) (vPart (vC (.int 62))) ⟨s0, []⟩ = rM (ks.map T.int) [] := by
    show (if (ns.map T.int).length ≤ SZ then rM (cutT (ns.map T.int) (some (b : Int)) (some 62)) [] else none) = _
    rw [if_pos (by simp; omega), ec]
  have k1 : vComp [4] (vItems (vVal (vSliceL (vVar 0) (vPart (vVar 1)) (vPart (vC (.int 62)))))) (vgName 4) vYes (vB gAbs (vCons (vB gInt1 (vCons (vVar 4) vNil)) vNil)) ⟨s0, []⟩ = rM (ks.map fun i => T.int (absI i)) [] :=
    comp_map (xs := ks) (t := T.int) (u := fun i => T.int (absI i)) (si_items (se_val sl) rfl) (fun i _ => ⟨_, rfl, rfl⟩) (by omega)
  rw [show (ks.map fun i => T.int (absI i)) = cs.map T.int from by simp [cs]] at k1
  let x0 : Int := 73939133 + 67 * (b : Int)
  have L := loop_run (St := stStir (.seq (ns.map T.int)) (.int b) (.lst (cs.map T.int))) (g := vgName 4) (b := bStir) T.int (fun x c => .inr (stirP x c)) (fun _ => True) cs x0 trivial (fun x c _ _ => ⟨stir_turn _ _ _ x c, fun _ _ => trivial⟩)
  rw [runX_fold] at L
  let x := cs.foldl stirP x0
  have hx : 0 ≤ x ∧ x < 2147483647 := by
    have go : ∀ (cs : List Int) (x0 : Int), 0 ≤ x0 ∧ x0 < 2147483647 → 0 ≤ cs.foldl stirP x0 ∧ cs.foldl stirP x0 < 2147483647 := fun cs => by
      induction cs with
      | nil => intro x0 h; exact h
      | cons c r ih => intro x0 _; exact ih _ ⟨Int.emod_nonneg _ (by decide), Int.emod_lt_of_pos _ (by decide)⟩
    exact go cs x0 (by show 0 ≤ 73939133 + 67 * (b : Int) ∧ 73939133 + 67 * (b : Int) < _; omega)
  let gs := (cs.filter fun i => decide ((10 : Int) ^ 18 ≤ i))
  have lg : gs.length ≤ 900 := by
    have := List.length_filter_le (fun i => decide ((10 : Int) ^ 18 ≤ i)) cs
    show (List.filter _ _).length ≤ _
    omega
  let sE : List (Option Sl) := [some (.val (.seq (ns.map T.int))), some (.val (.int b)), some (.val (.lst (cs.map T.int))), some (.val (.int x)), none]
  have k2 : vComp [4] (vItems (vVar 2)) (vgName 4) (vTest (vBin dGe (vVar 4) (vBin dPow (vC (.int 10)) (vC (.int 18))))) (vVar 4) ⟨sE, []⟩ = rM (cs.filterMap fun i => if decide ((10 : Int) ^ 18 ≤ i) then some (T.int i) else none) [] :=
    comp_fmap (xs := cs) (t := T.int) rfl (fun i _ => ⟨[some (.val (.seq (ns.map T.int))), some (.val (.int b)), some (.val (.lst (cs.map T.int))), some (.val (.int x)), some (.val (.int i))], rfl, by
      have t : vTest (vBin dGe (vVar 4) (vBin dPow (vC (.int 10)) (vC (.int 18)))) ⟨[some (.val (.seq (ns.map T.int))), some (.val (.int b)), some (.val (.lst (cs.map T.int))), some (.val (.int x)), some (.val (.int i))], []⟩ = rM (decide ((10 : Int) ^ 18 ≤ i)) [] :=
        sc_test (se_bin (se_var rfl) (se_bin se_c se_c (gIntC_ok (by decide))) rfl)
      cases q : decide ((10 : Int) ^ 18 ≤ i) with
      | true => rw [q] at t; exact ⟨t, rfl⟩
      | false => rw [q] at t; exact t⟩) (by omega)
  rw [filterMap_filter] at k2
  refine ⟨⟨x, gs⟩, ⟨hx, lg⟩, ?_⟩
  have rv : vOwn (vRev (vVal (vComp [4] (vItems (vVar 2)) (vgName 4) (vTest (vBin dGe (vVar 4) (vBin dPow (vC (.int 10)) (vC (.int 18))))) (vVar 4)))) ⟨sE, []⟩ = rM (.own 0) [.lst (gs.reverse.map T.int)] := by
    refine se_own (m := []) (ts := gs.reverse.map T.int) ?_
    unfold vRev
    rw [se_val k2]
    show (if ((cs.filter fun i => decide ((10 : Int) ^ 18 ≤ i)).map T.int).length ≤ SZ then _ else _) = _
    rw [if_pos (by rw [List.length_map]; have : (cs.filter fun i => decide ((10 : Int) ^ 18 ≤ i)).length ≤ 900 := lg; omega), ← List.map_reverse]
  have s1 : vSet 2 (vVal (vComp [4] (vItems (vVal (vSliceL (vVar 0) (vPart (vVar 1)) (vPart (vC (.int 62)))))) (vgName 4) vYes (vB gAbs (vCons (vB gInt1 (vCons (vVar 4) vNil)) vNil)))) ⟨s0, []⟩ = some (.nx, ⟨s0.set 2 (some (.val (.lst (cs.map T.int)))), []⟩) := st_set (se_val k1)
  have s2 : vSet 3 (vBin gAdd (vC (.int 73939133)) (vBin dMul (vC (.int 67)) (vVar 1))) ⟨s0.set 2 (some (.val (.lst (cs.map T.int)))), []⟩ = some (.nx, stStir (.seq (ns.map T.int)) (.int b) (.lst (cs.map T.int)) x0) :=
    st_set (se_bin se_c (se_bin se_c (se_var rfl) (gIntC_ok (by unfold cMul; simp))) rfl)
  refine (sd_rt (f := b_source c0) (a := .own 1) (s1 := ⟨sE, lM ⟨x, gs⟩⟩) ?_).trans rfl
  refine st_seq s1 (st_seq s2 (st_seq (s1 := ⟨sE, []⟩) ?_ (st_ret ?_)))
  · show vFor _ _ _ (stStir (.seq (ns.map T.int)) (.int b) (.lst (cs.map T.int)) x0) = _
    exact st_for (si_items (se_var rfl) rfl) L
  · unfold vDisp vRcd
    rw [rv]
    rfl
theorem source_call {ns : List Int} {b : Nat} (hl : ns.length ≤ 900) (hb : b ≤ 1000) : ∃ d : De, d.Ok ∧ callM (f_source c0) [.val (.seq (ns.map T.int)), .val (.int (b : Int))] [] = rM (.own 1) (lM d) := by
  obtain ⟨d, ok, e⟩ := source_eq (ns := ns) (b := b) hl hb
  exact ⟨d, ok, (call_fresh0 (m := []) rfl rfl e).trans rfl⟩

end Vw.Pk
end
section
namespace Vw.Pk
open PySem PySem.Spec PyProof.Rows L2 Own Vs
def ansL (r : Option Wo × CSt) : T := match r.1 with
  | some w => .str w.s
  | none => .int ((r.2.cut.getD 0 : Nat) : Int)
section
variable {i : CIn} {F n : Nat} {s s' : CSt} {m : List MO} {ρ : List (Option Sl)}
end

end Vw.Pk
end
section
namespace Vw.Pk
open PySem PySem.Spec PyProof.Rows L2 Own Vs
def outsL (F : Nat) : List Bool := List.replicate F false ++ List.replicate 300 true
def inL (rows : List Rw) (o : Bool) (F : Nat) : CIn := ⟨rows, o, outsL F, true⟩
def runL (rows : List Rw) (h : List Kp) (o : Bool) (F : Nat) : Option Wo × CSt := askP (inL rows o F) rows 0 o (st0 rows h)
theorem se_binN {gg : Sl → Sl → List MO → M (List T)} {fa fb : VE} {s : S} {a b : Sl} {m1 m2 : List MO} {z : M (List T)} (h1 : fa s = rM a m1) (h2 : fb ⟨s.ρ, m1⟩ = rM b m2) (h : gg a b m2 = z) : vBinN gg fa fb s = z := by unfold vBinN; rw [h1]; show bM (fb _) _ = _; rw [h2]; exact h
section
variable {rows : List Rw} {h : List Kp} {i : CIn} {F : Nat} {s s' : CSt} {o : Bool}
end

end Vw.Pk
end
section
namespace Vw.Pk
open PySem PySem.Spec PyProof.Rows L2 Own Vs
def lcsP (rows : List Rw) (h : List Kp) (o : Bool) : List (Nat × (Option Wo × CSt)) := (99, runL rows h o 99) :: (List.range (runL rows h o 99).2.tries).map fun F => (F, runL rows h o F)
section
variable {rows : List Rw} {h : List Kp} {F : Nat} {o : Bool} {m : List MO} {r : Option Wo × CSt}
end

end Vw.Pk
end
section
namespace Vw.Pk
open PySem PySem.Spec PyProof.Rows L2 Own Vs
section
variable {rows : List Rw} {ws : List Wi} {m : List MO}
def rowsL (rows : List Rw) : T := .lst (rows.map lawT)
end

end Vw.Pk
end
section
namespace Vw.Pk
open PySem PySem.Spec PyProof.Rows L2 Own Vs
theorem ne_self {s t : Sl} {d : PyData} {m : List MO} (h : datOf s m = some d) (h' : datOf t m = some d) (sh : SeqAt.shaped d = true) : gDat (fun d e => !PyData.eqv d e) s t m = rM (.val (.bl false)) m := by
  unfold gDat
  rw [h, h']
  simp only
  rw [if_pos ⟨sh, sh⟩]
  have : d.canLay0 = true := by unfold SeqAt.shaped at sh; simp at sh; exact sh.1
  rw [SeqAt.eqv_refl d this]
  rfl
theorem shaped_str {x : Str} (h : PyData.strOk x = true) : SeqAt.shaped (.str x) = true := by
  unfold SeqAt.shaped
  rw [show (PyData.str x).canLay0 = true from h]
  rfl

end Vw.Pk
end
section
namespace Vw.Pk
open PySem PySem.Spec PyProof.Rows L2 Own Vs
theorem law_orders_eq : ∀ n : Nat, n ≤ 4 → f_orders c0 [.val (.int (n : Int))] [] = some (.ok (.val (.lst ((ordersP n).map orderT))), [])
  | 0, _ => by kernel_rfl
  | 1, _ => by kernel_rfl
  | 2, _ => by kernel_rfl
  | 3, _ => by kernel_rfl
  | 4, _ => by kernel_rfl
  | n + 5, h => absurd h (by omega)
theorem law_orders_call {n : Nat} (h : n ≤ 4) {m : List MO} : callM (f_orders c0) [.val (.int (n : Int))] m = rM (.val (.lst ((ordersP n).map orderT))) m := call_vals (law_orders_eq n h) rfl rfl
structure LotOk (rows : List Rw) : Prop where
  len : rows.length ≤ 4
  drawn : ∀ r ∈ rows, r.Drawn
  life : ∀ a n, Rw.keep a (some n) ∈ rows → n ≤ 1
  tries : ∀ n a, Rw.tries n a ∈ rows → n ≤ 2
  keeps : keeps2 rows ≤ 2
theorem perm_orders_b : ∀ n : Nat, n ≤ 4 → ((ordersP n).all fun o => o.isPerm (List.range n)) = true
  | 0, _ => by decide
  | 1, _ => by decide
  | 2, _ => by decide
  | 3, _ => by decide
  | 4, _ => by decide +kernel
  | n + 5, h => absurd h (by omega)
theorem range_map : ∀ rows : List Rw, (List.range rows.length).map (fun i => rows.getD i .lend) = rows := fun rows => by
  apply List.ext_getElem?
  intro i
  rw [List.getElem?_map]
  by_cases h : i < rows.length
  · rw [List.getElem?_range h, List.getElem?_eq_getElem h]
    simp [List.getD_eq_getElem?_getD, List.getElem?_eq_getElem h]
  · rw [List.getElem?_eq_none_iff.mpr (by rw [List.length_range]; omega), List.getElem?_eq_none_iff.mpr (by omega)]
    rfl
theorem permR_perm {rows : List Rw} (h : rows.length ≤ 4) {o : List Nat} (ho : o ∈ ordersP rows.length) : (permR rows o).Perm rows := by
  have p := List.isPerm_iff.mp (List.all_eq_true.mp (perm_orders_b rows.length h) o ho)
  have q := p.map fun i => rows.getD i .lend
  rw [range_map] at q
  exact q
theorem keeps2_count (rs : List Rw) : keeps2 rs = (rs.map Rw.sort).count .keep := by
  induction rs with
  | nil => rfl
  | cons r rs ih =>
    unfold keeps2 at ih ⊢
    rw [List.filter_cons, List.map_cons, List.count_cons]
    cases r with
    | keep a l => rw [show (Rw.keep a l).isKeep = true from rfl, if_pos rfl, List.length_cons, ih]; rfl
    | _ => exact ih
theorem lot_ok {n : Nat} (hn : n ≤ 4) {d : De} (h : d.Ok) : LotOk (lotP n d).1 ∧ (lotP n d).2.Ok := by
  obtain ⟨h1, ⟨zs, hp, hs⟩, hd⟩ := rows_ok (n := n) h
  generalize hx : rowsP n d = x at *
  obtain ⟨rs, d1⟩ := x
  simp only at h1 hs hd
  have e : lotP n d = (cut3 (rs.map lotR), d1) := by unfold lotP; rw [hx]
  rw [e]
  refine ⟨?_, h1⟩
  have lr : rs.length ≤ n := by
    have : rs.length = (rs.map Rw.sort).length := by simp
    rw [this, hs, List.length_take]
    exact Nat.min_le_left _ _
  have sub : ∀ r ∈ cut3 (rs.map lotR), ∃ r0 ∈ rs, r = lotR r0 := fun r hr => by
    have : r ∈ rs.map lotR := by
      unfold cut3 at hr
      split at hr
      · exact List.mem_of_mem_take hr
      · exact hr
    obtain ⟨r0, h0, rfl⟩ := List.mem_map.mp this
    exact ⟨r0, h0, rfl⟩
  have kl : keeps2 (cut3 (rs.map lotR)) ≤ keeps2 (rs.map lotR) := by
    unfold cut3
    split
    · unfold keeps2
      exact ((List.take_sublist 3 _).filter _).length_le
    · exact Nat.le_refl _
  have ks : keeps2 (rs.map lotR) ≤ 2 := by
    rw [keeps2_count, List.map_map]
    have e2 : rs.map (Rw.sort ∘ lotR) = rs.map Rw.sort := List.map_congr_left fun r hr => (drawn_lot (hd r hr)).2.1
    rw [e2, hs]
    have h1 : (zs.take n).count Sr.keep ≤ zs.count Sr.keep := (List.take_sublist n zs).count_le _
    have h2 : zs.count Sr.keep = sorts12.count Sr.keep := hp.count_eq _
    have h3 : sorts12.count Sr.keep = 2 := by decide
    omega
  exact ⟨by
      have : (cut3 (rs.map lotR)).length ≤ (rs.map lotR).length := by
        unfold cut3
        split
        · exact (List.take_sublist 3 _).length_le
        · exact Nat.le_refl _
      rw [List.length_map] at this
      show (cut3 (rs.map lotR)).length ≤ 4
      omega,
    fun r hr => by obtain ⟨r0, h0, rfl⟩ := sub r hr; exact (drawn_lot (hd r0 h0)).1,
    fun a m hr => by obtain ⟨r0, h0, z⟩ := sub _ hr; exact (drawn_lot (hd r0 h0)).2.2.1 a m z.symm,
    fun m a hr => by obtain ⟨r0, h0, z⟩ := sub _ hr; exact (drawn_lot (hd r0 h0)).2.2.2 m a z.symm,
    by show keeps2 (cut3 (rs.map lotR)) ≤ 2; omega⟩

end Vw.Pk
end
section
namespace Vw.Pk
open PySem PySem.Spec PyProof.Rows L2 Own Vs
theorem row_okB : ∀ r ∈ allRows, PyData.strOk (rowS r) = true := by
  intro r hr
  simp only [allRows, List.mem_cons, List.not_mem_nil, or_false] at hr
  rcases hr with rfl | rfl | rfl | rfl | rfl | rfl | rfl | rfl | rfl | rfl | rfl | rfl | rfl | rfl | rfl | rfl | rfl | rfl | rfl | rfl | rfl | rfl | rfl | rfl | rfl <;> kernel_rfl
theorem str_all : ∀ r ∈ allRows, f_Row_str c0 [.val r.t] [] = some (.ok (.val (.str (rowS r))), []) := by
  intro r hr
  simp only [allRows, List.mem_cons, List.not_mem_nil, or_false] at hr
  rcases hr with rfl | rfl | rfl | rfl | rfl | rfl | rfl | rfl | rfl | rfl | rfl | rfl | rfl | rfl | rfl | rfl | rfl | rfl | rfl | rfl | rfl | rfl | rfl | rfl | rfl <;> kernel_rfl
theorem strO_row {r : Rw} (h : r.Drawn) {m : List MO} : gStrO (ok_Row c0) (f_Row_str c0) [.val r.t] m = rM (.val (.str (rowS r))) m := by
  have c := call_vals (m := m) (str_all r (mem_all h)) rfl rfl
  have o : gStrO (ok_Row c0) (f_Row_str c0) [.val r.t] m = strOf (callM (f_Row_str c0) [.val r.t] m) := by
    cases r <;> kernel_rfl
  rw [o, c]
  rfl
theorem made_call {rs : List Rw} (h : ∀ r ∈ rs, r.Drawn) (hl : rs.length ≤ 900) {m : List MO} : callM (f_made_rows c0) [.val (rowsL rs)] m = rM (.val (.lst (rs.map Rw.t))) m := call_vals (made_eq h hl) rfl rfl
theorem tup_of {xs : List T} (h : xs.length ≤ SZ) {m : List MO} : gTupOf [.val (.lst xs)] m = rM (.val (.tup xs)) m := by
  show (if xs.length ≤ SZ then rM (Sl.val (.tup xs)) m else none) = _
  rw [if_pos h]
theorem cat_of {xs ys : List T} {m : List MO} (h : xs.length + ys.length ≤ SZ) : gCat (.val (.lst xs)) (.val (.lst ys)) m = rM (xs ++ ys) m := by
  show (if xs.length + ys.length ≤ SZ then rM (xs ++ ys) m else none) = _
  rw [if_pos h]
theorem st_par {i j : Nat} {f : VA} {s : S} {a b : Sl} {m : List MO} (h : f s = rM [a, b] m) : vPar i j f s = some (.nx, ⟨(s.ρ.set i (some a)).set j (some b), m⟩) := by
  unfold vPar
  rw [h]
  rfl
theorem tNe {fa fb : VE} {s : S} {a b : Sl} {d : PyData} {m1 m2 : List MO} (h1 : fa s = rM a m1) (h2 : fb ⟨s.ρ, m1⟩ = rM b m2) (e1 : datOf a m2 = some d) (e2 : datOf b m2 = some d) (sh : SeqAt.shaped d = true) : vTest (vBin dNe fa fb) s = rM false m2 := sc_test (se_bin h1 h2 (ne_self e1 e2 sh))
end Vw.Pk
end
section
namespace Vw.Pk
open PySem PySem.Spec PyProof.Rows L2 Own Vs
def natD : Option Nat → PyData | none => .none | some n => .int n
def lawD : Rw → PyData
  | .keep a l => .tuple [.str "keep", .str (whS a), natD l]
  | .tries n a => .tuple [.str "tries", .int n, .str (onS a)]
  | .limit n => .tuple [.str "limit", .int n]
  | .soft a => .tuple [.str "soft", .str (onS a)]
  | .leave => .tuple [.str "leave"]
  | .count => .tuple [.str "count"]
  | .lend => .tuple [.str "lend"]
def dR (rs : List Rw) : PyData := .list (rs.map lawD)
end Vw.Pk
end
section
namespace Vw.Pk
open PySem PySem.Spec PyProof.Rows L2 Own Vs
theorem gDat_ok {f : PyData → PyData → Bool} {s t : Sl} {d e : PyData} {m : List MO} (h : datOf s m = some d) (h' : datOf t m = some e) (sd : SeqAt.shaped d = true) (se : SeqAt.shaped e = true) : gDat f s t m = rM (.val (.bl (f d e))) m := by
  unfold gDat
  rw [h, h']
  simp only
  rw [if_pos ⟨sd, se⟩]
end Vw.Pk
end
section
namespace Vw.Pk
open PySem PySem.Spec PyProof.Rows L2 Own Vs
structure Sc where
  rows : List Rw
  ws : List Wi
  os : List (List Nat)
structure Sc.Ok (x : Sc) : Prop where
  lot : LotOk x.rows
  two : 2 ≤ x.rows.length
  w1 : 1 ≤ x.ws.length
  w2 : x.ws.length ≤ 2
  os : x.os = goodP x.rows x.ws
end Vw.Pk
end
section
namespace Vw.Pk
open PySem PySem.Spec PyProof.Rows L2 Own Vs
theorem se_andV {fa fb : VE} {s : S} {m : List MO} {z : M Sl} (h : fa s = rM (.val (.bl true)) m) (k : fb ⟨s.ρ, m⟩ = z) : vAndV fa fb s = z := by
  unfold vAndV
  rw [h]
  exact k
end Vw.Pk
end
section
namespace Vw.Pk
open PySem PySem.Spec PyProof.Rows L2 Own Vs
section
variable {α β : Type} [DecidableEq α]
variable {steps : α → List (β × α)} {a : α}
variable {enc : α → T} {key : α → NestedKey} {lab : β → T} {P : α → Prop} {vf : VF}
inductive Walk (steps : α → List (β × α)) (a : α) : List β → α → Prop
  | nil : Walk steps a [] a
  | snoc {ls : List β} {b c : α} {l : β} : Walk steps a ls b → (l, c) ∈ steps b → Walk steps a (ls ++ [l]) c
end
end Vw.Pk
end
section
namespace Vw.Pk
open PySem PySem.Spec PyProof.Rows L2 Own Vs
abbrev Th := Option (Bool × Wo)
end Vw.Pk
end
section
namespace Vw.Pk
open PySem PySem.Spec PyProof.Rows L2 Own Vs
def StepTh (rows : List Rw) (h : List Kp) : Th → List Kp → Prop
  | none, h' => h' = tickP h
  | some (o, w), h' => ∃ c ∈ callsOf rows h o, c.2.1 = some w ∧ h' = c.2.2.held
inductive RunTh (rows : List Rw) : List Kp → List Th → List Kp → Prop where
  | nil {h : List Kp} : RunTh rows h [] h
  | cons {h h1 h2 : List Kp} {t : Th} {r : List Th} : StepTh rows h t h1 → RunTh rows h1 r h2 → RunTh rows h (t :: r) h2
end Vw.Pk
end
section
namespace Vw.Pk
open PySem PySem.Spec PyProof.Rows L2 Own Vs
abbrev Pe := Option (Bool × List Bool)
section
variable {rows : List Rw} {h : List Kp} {o : Bool} {m : List MO}
def peC (rows : List Rw) (h : List Kp) : Pe → Option Cl | none => none | some (o, bs) => some (mkC rows h o bs false)
def peH (rows : List Rw) (h : List Kp) : Pe → List Kp | none => tickP h | some (o, bs) => (mkC rows h o bs true).2.2.held
def PeOk (rows : List Rw) (h : List Kp) : Pe → Prop | none => True | some (o, bs) => ∃ c ∈ callsOf rows h o, c.1.outs = bs
end

end Vw.Pk
end
section
namespace Vw.Pk
open PySem PySem.Spec PyProof.Rows L2 Own Vs
section
variable {rows : List Rw} {m : List MO}
def ansO : Option Cl → T | none => .non | some c => ansT c.2.1
end

end Vw.Pk
end
section
namespace Vw.Pk
open PySem PySem.Spec PyProof.Rows L2 Own Vs
def peCs (rows : List Rw) : List Kp → List Pe → List (Option Cl)
  | _, [] => []
  | h, e :: r => peC rows h e :: peCs rows (peH rows h e) r
def peEnd (rows : List Rw) : List Kp → List Pe → List Kp
  | h, [] => h
  | h, e :: r => peEnd rows (peH rows h e) r
def PeAll (rows : List Rw) : List Kp → List Pe → Prop
  | _, [] => True
  | h, e :: r => PeOk rows h e ∧ PeAll rows (peH rows h e) r
section
variable {rows : List Rw} {m : List MO}
end

end Vw.Pk
end
section
namespace Vw.Pk
open PySem PySem.Spec PyProof.Rows L2 Own Vs
def insA {α : Type} : Nat → α → List α → List α
  | 0, x, l => x :: l
  | _ + 1, x, [] => [x]
  | a + 1, x, y :: r => y :: insA a x r
def shA (a n : Nat) : Nat := if n < a then n else n + 1
section
variable {α β : Type}
end
structure SimC (a : Nat) (s s' : CSt) : Prop where
  held : s'.held = insA a none s.held
  lims : s'.limits = s.limits.map fun l => (shA a l.1, l.2)
  tries : s'.tries = s.tries
  cut : s'.cut = s.cut.map (shA a)
  len : a ≤ s.held.length
section
variable {a n n' : Nat} {s s' : CSt} {x x' : Option Wo × CSt}
variable {i i' : CIn}
end
section
variable {rows : List Rw} {a : Nat} {h : List Kp} {o : Bool}
end

end Vw.Pk
end
section
namespace Vw.Pk
open PySem PySem.Spec PyProof.Rows L2 Own Vs
section
variable {rows : List Rw} {m : List MO}
structure BrW (rows : List Rw) (w : Wi) (es : List Pe) : Prop where
  all : PeAll rows (begunP rows) es
  pos : 0 < es.length
  len : es.length ≤ 900
  last : ∃ c, (peCs rows (begunP rows) es)[es.length - 1]? = some (some c) ∧ breaksP c w = true
  least : ∀ (es' : List Pe) (k : Nat) (c : Cl), PeAll rows (begunP rows) es' → (peCs rows (begunP rows) es')[k]? = some (some c) → breaksP c w = true → es.length ≤ k + 1
end

end Vw.Pk
end
section
namespace Vw.Pk
open PySem PySem.Spec PyProof.Rows L2 Own Vs
structure En {α : Type} (enc : α → T) where
  dat : α → PyData
  toD : ∀ a, toD (enc a) = some (dat a)
  can : ∀ a, (dat a).canLay0 = true
  dep : ∀ a, (dat a).depth ≤ 60
section
variable {α : Type} {enc : α → T} {m : List MO}
end
end Vw.Pk
end
section
namespace Vw.Pk
open PySem PySem.Spec PyProof.Rows L2 Own Vs
structure AskInv (i : CIn) (J : CSt → Prop) (A : Option Wo → Prop) : Prop where
  try_ : ∀ s, J s → J (tryP i s).2 ∧ A (tryP i s).1
  give : ∀ s n all life k, i.rows[n]? = some (.keep all life) → J s → s.held[n]? = some (some k) → A (some k.1) ∧ J { s with given := s.given ++ [(n, k.1, k.2.2)] }
  store : ∀ s n all life w, i.rows[n]? = some (.keep all life) → J s → A (some w) → (all || !w.bad) = true → J { s with held := s.held.set n (some (w, life, false)), stored := s.stored ++ [w] }
  push : ∀ s n, J s → J { s with limits := s.limits ++ [(n, s.tries)] }
  pop : ∀ s c, J s → J { s with limits := s.limits.dropLast, cut := c }
  late : ∀ k, Rw.limit k ∈ i.rows → A (some .late)
  deny : Rw.leave ∈ i.rows → A (some .denied)
  soft : ∀ all, Rw.soft all ∈ i.rows → A (some .spare)
  cnt : ∀ s n, i.rows[n]? = some .count → J s → J (upC n s)
section
variable {rows : List Rw} {m : List MO}
end

end Vw.Pk
end
section
namespace Vw.Pk
open PySem PySem.Spec PyProof.Rows L2 Own Vs
def shG (a : Nat) (g : Nat × Wo × Bool) : Nat × Wo × Bool := (shA a g.1, g.2.1, g.2.2)
structure SimD (a : Nat) (K : Nat → Nat → Prop) (s s' : CSt) : Prop where
  c : SimC a s s'
  giv : s'.given = s.given.map (shG a)
  cnl : a ≤ s.counts.length
  cnt : ∃ k, s'.counts = insA a (some k) s.counts ∧ K k s.tries
section
variable {a n n' : Nat} {s s' : CSt} {x x' : Option Wo × CSt} {K : Nat → Nat → Prop}
variable {i i' : CIn}
end
section
variable {rows : List Rw} {a : Nat} {h : List Kp} {o : Bool}
end

end Vw.Pk
end
section
namespace Vw.Pk
open PySem PySem.Spec PyProof.Rows L2 Own Vs
theorem set_set_ne {ρ : List (Option Sl)} {j k : Nat} {a b x : Option Sl} (h : ρ[k]? = some x) (ne : j ≠ k) : ((ρ.set j a).set j b)[k]? = some x := by
  rw [List.getElem?_set_ne ne, List.getElem?_set_ne ne]; exact h
theorem set_set_eq {ρ : List (Option Sl)} {j : Nat} {a b : Option Sl} (h : j < ρ.length) : ((ρ.set j a).set j b)[j]? = some b := by
  rw [List.getElem?_set_self (by rw [List.length_set]; exact h)]
theorem body_same1 {L : List Nat} {f : VS} {s s1 : S} (h : f s = some (.nx, s1)) (hm : s1.m.length = s.m.length) : vBody L f s = some (.nx, ⟨Vs.wipe L s1.ρ, s1.m⟩) := by
  rw [body_nx h]
  unfold cutSt
  split
  · show some (Fl.nx, (⟨Vs.wipe L s1.ρ, s1.m.take s.m.length⟩ : S)) = _
    rw [← hm, List.take_length]
  · rfl

end Vw.Pk
end
section
namespace Vw.Pk
open PySem PySem.Spec PyProof.Rows L2 Own Vs
theorem all_fold (g : Array Nat) (p : Nat → Bool) (hg : g.all p = true) : ∀ (l : List Str) (acc : Array Nat), acc.all p = true → (∀ t ∈ l, t.cps.all p = true) → (l.foldl (fun acc t => acc ++ g ++ t.cps) acc).all p = true
  | [], acc, h, _ => h
  | t :: r, acc, h, ht => all_fold g p hg r _ (by rw [Array.all_append, Array.all_append, h, hg, ht t (List.mem_cons_self ..)]; rfl) fun t h => ht t (List.mem_cons_of_mem _ h)
def txt (rs : List Rw) : Str := Txt.join "\n" (rs.map rowS)
theorem txt_ok {rs : List Rw} (h : ∀ r ∈ rs, r.Drawn) : PyData.strOk (txt rs) = true := by
  have hr : ∀ t ∈ rs.map rowS, PyData.strOk t = true := fun t ht => by
    obtain ⟨r, hr, rfl⟩ := List.mem_map.mp ht
    exact row_okB r (mem_all (h r hr))
  unfold txt
  cases q : rs.map rowS with
  | nil => kernel_rfl
  | cons a l =>
    rw [q] at hr
    exact all_fold _ _ (by kernel_rfl) l a.cps (hr a (List.mem_cons_self ..)) fun t ht => hr t (List.mem_cons_of_mem _ ht)
theorem row_lenB : ∀ r ∈ allRows, decide ((rowS r).length ≤ 40) = true := by
  intro r hr
  simp only [allRows, List.mem_cons, List.not_mem_nil, or_false] at hr
  rcases hr with rfl | rfl | rfl | rfl | rfl | rfl | rfl | rfl | rfl | rfl | rfl | rfl | rfl | rfl | rfl | rfl | rfl | rfl | rfl | rfl | rfl | rfl | rfl | rfl | rfl <;> kernel_rfl
theorem strs_rows : ∀ rs : List Rw, strsOf (rs.map fun r => T.str (rowS r)) = some (rs.map rowS)
  | [] => rfl
  | r :: rs => by
    rw [List.map_cons]
    unfold strsOf
    rw [strs_rows rs]
    rfl
theorem rows_sum : ∀ rs : List Rw, (∀ r ∈ rs, r.Drawn) → ((rs.map rowS).map (·.length)).sum ≤ 40 * rs.length
  | [], _ => by simp
  | r :: rs, h => by
    have := rows_sum rs fun r hr => h r (List.mem_cons_of_mem _ hr)
    have h1 := of_decide_eq_true (row_lenB r (mem_all (h r (List.mem_cons_self ..))))
    rw [List.map_cons, List.map_cons, List.sum_cons, List.length_cons]
    omega
theorem join_rows {rs : List Rw} (h : ∀ r ∈ rs, r.Drawn) (hl : rs.length ≤ 900) {m : List MO} : gJoin (.val (.str "\n")) [.val (.lst (rs.map fun r => T.str (rowS r)))] m = rM (.val (.str (txt rs))) m := by
  have h1 := rows_sum rs h
  have h3 : ("\n" : Str).length = 1 := by decide
  unfold gJoin
  simp only [seqOf_lst, Option.bind, strs_rows rs]
  rw [if_pos (by rw [h3, List.length_map]; omega)]
  rfl
theorem stack_str {rs : List Rw} (h : ∀ r ∈ rs, r.Drawn) (hl : rs.length ≤ 900) {m : List MO} : gStrO (ok_Stack c0) (f_Stack_str c0) [.val (stackT rs)] m = rM (.val (.str (txt rs))) m := by
  have hz : SZ = 1000000 := rfl
  have c : callM (f_Stack_str c0) [.val (stackT rs)] m = rM (.val (.str (txt rs))) m := by
    refine call_vals ?_ rfl rfl
    let s : S := ⟨[some (.val (stackT rs)), none], []⟩
    have fr : vFld (okA c0) "rows" (vVar 0) s = rM (.val (.tup (rs.map Rw.t))) [] := rfl
    have c : vComp [1] (vItems (vFld (okA c0) "rows" (vVar 0))) (vgName 1) vYes (vB (gStrO (ok_Row c0) (f_Row_str c0)) (vCons (vVar 1) vNil)) s = rM (rs.map fun r => T.str (rowS r)) [] :=
      comp_map (xs := rs) (t := Rw.t) (si_items fr rfl) (fun r hr => ⟨s.ρ.set 1 (some (.val r.t)), rfl, se_b (sa_cons rfl sa_nil) (strO_row (h r hr))⟩) (by omega)
    refine (sd_rt (f := b_Stack_str c0) (a := .val (.str (txt rs))) (s1 := s) ?_).trans rfl
    exact st_ret (se_m1 rfl rfl (se_val c) (join_rows h hl))
  have o : gStrO (ok_Stack c0) (f_Stack_str c0) [.val (stackT rs)] m = strOf (callM (f_Stack_str c0) [.val (stackT rs)] m) := by rfl
  rw [o, c]
  rfl
theorem row_no_nl : ∀ r ∈ allRows, decide (10 ∉ TL.tl (rowS r)) = true := by
  intro r hr
  simp only [allRows, List.mem_cons, List.not_mem_nil, or_false] at hr
  rcases hr with rfl | rfl | rfl | rfl | rfl | rfl | rfl | rfl | rfl | rfl | rfl | rfl | rfl | rfl | rfl | rfl | rfl | rfl | rfl | rfl | rfl | rfl | rfl | rfl | rfl <;> kernel_rfl
theorem row_neB : ∀ r ∈ allRows, decide (rowS r = "") = false := by
  intro r hr
  simp only [allRows, List.mem_cons, List.not_mem_nil, or_false] at hr
  rcases hr with rfl | rfl | rfl | rfl | rfl | rfl | rfl | rfl | rfl | rfl | rfl | rfl | rfl | rfl | rfl | rfl | rfl | rfl | rfl | rfl | rfl | rfl | rfl | rfl | rfl <;> kernel_rfl
theorem txt_split {rs : List Rw} (h : ∀ r ∈ rs, r.Drawn) (hn : rs ≠ []) : Txt.split (txt rs) "\n" = rs.map rowS := by
  unfold txt
  refine TL.split_join (s := 10) (S := []) (by kernel_rfl) (by kernel_rfl) (fun e => hn (List.map_eq_nil_iff.mp e)) fun p hp => ?_
  obtain ⟨r, hr, rfl⟩ := List.mem_map.mp hp
  exact of_decide_eq_true (row_no_nl r (mem_all (h r hr)))
theorem txt_ne {rs : List Rw} (h : ∀ r ∈ rs, r.Drawn) (hn : rs ≠ []) : txt rs ≠ "" := fun e => by
  have s := txt_split h hn
  rw [e] at s
  have k : Txt.split ("" : Str) "\n" = [("" : Str)] := by kernel_rfl
  rw [k] at s
  cases rs with
  | nil => exact hn rfl
  | cons a r =>
    rw [List.map_cons] at s
    have h1 := (List.cons.inj s).1
    have h2 := row_neB a (mem_all (h a (List.mem_cons_self ..)))
    rw [decide_eq_true h1.symm] at h2
    cases h2
theorem txt_len {rs : List Rw} (h : ∀ r ∈ rs, r.Drawn) (hl : rs.length ≤ 900) : (txt rs).length ≤ 100000 := by
  have h1 := rows_sum rs h
  have k : ∀ (l : List Str) (acc : Array Nat), (l.foldl (fun acc t => acc ++ ("\n" : Str).cps ++ t.cps) acc).size = acc.size + (l.map (·.length)).sum + l.length := fun l => by
    induction l with
    | nil => intro acc; simp
    | cons a r ih =>
      intro acc
      rw [List.foldl_cons, ih, Array.size_append, Array.size_append, List.map_cons, List.sum_cons, List.length_cons]
      have : ("\n" : Str).cps.size = 1 := by decide
      have e : a.length = a.cps.size := rfl
      omega
  unfold txt
  cases q : rs.map rowS with
  | nil => have e : (Txt.join "\n" ([] : List Str)).length = 0 := by kernel_rfl
           omega
  | cons a l =>
    have e : (Txt.join "\n" (a :: l)).length = (l.foldl (fun acc t => acc ++ ("\n" : Str).cps ++ t.cps) a.cps).size := rfl
    rw [e, k]
    rw [q] at h1
    rw [List.map_cons, List.sum_cons] at h1
    have e2 : a.length = a.cps.size := rfl
    have e3 : l.length + 1 = rs.length := by have := congrArg List.length q; rw [List.length_map, List.length_cons] at this; omega
    omega
theorem make_stackD {rows : List Rw} (hl : rows.length ≤ 900) {fa : VA} {ρ : List (Option Sl)} {tup : Bool} {dts : List T} {ss : List Sl} (ha : fa ⟨ρ, []⟩ = rM ss []) (hs : ss ++ dts.map .val = [.val (seqT tup (rows.map Rw.t))]) : vCutE (vInsD (vMakeD c0.Stack (f_Stack_init c0) dts fa)) ⟨ρ, []⟩ = rM (.val (stackT rows)) [] := by
  have e1 : f_Stack_init c0 [.own 0, .val (seqT tup (rows.map Rw.t))] [.ins c0.Stack []] = some (.ok (.val .non), [.ins c0.Stack [("rows", .val (.tup (rows.map Rw.t)))]]) := by
    refine (sd_nx (f := b_Stack_init c0) (s1 := ⟨[some (.own 0), some (.val (seqT tup (rows.map Rw.t)))], [.ins c0.Stack [("rows", .val (.tup (rows.map Rw.t)))]]⟩) ?_).trans rfl
    show vSetF _ _ _ _ _ = _
    unfold vSetF
    rw [se_call rfl (rows_of_call hl tup)]
    rfl
  have e2 : callM (f_Stack_init c0) [.own 0, .val (seqT tup (rows.map Rw.t))] [.ins c0.Stack []] = match f_Stack_init c0 [.own 0, .val (seqT tup (rows.map Rw.t))] [.ins c0.Stack []] with
    | some (o, sub') => if 1 ≤ sub'.length then some (backO [0] 1 o, putAll [0] [.ins c0.Stack []] sub') else none
    | none => none := rfl
  rw [e1] at e2
  show kCutE 0 (bM (bM (fa ⟨ρ, []⟩) _) gInsD) = _
  rw [ha]
  show kCutE 0 (bM (bM (callM (f_Stack_init c0) (.own 0 :: (ss ++ dts.map .val)) [.ins c0.Stack []]) _) gInsD) = _
  rw [hs, e2]
  rfl
def bRi : VS := (vBody [2, 3] (vNoEx (vDrop (vMet gAppend (vVar 1) (vCons (vCMeth c0.Row (f_Row_read c0) (vCons (vVar 3) vNil)) vNil)))))
def stRi (t0 : T) (us : List Rw) : S := ⟨[some (.val t0), some (.own 0), none, none], [.lst (us.map Rw.t)]⟩
theorem ri_loop {t0 : T} : ∀ (rs us : List Rw) (k : Nat), us.length + rs.length ≤ 900 → (∀ r ∈ rs, r.Drawn) → vLoop (vgTup [(vgName 2), (vgName 3)]) bRi (numT k (rs.map fun r => T.str (rowS r))) (stRi t0 us) = some (.nx, stRi t0 (us ++ rs))
  | [], us, k, _, _ => by rw [List.append_nil]; rfl
  | r :: rs, us, k, hl, h => by
    have hz : SZ = 1000000 := rfl
    rw [List.length_cons] at hl
    have ih := ri_loop (t0 := t0) rs (us ++ [r]) (k + 1) (by rw [List.length_append, List.length_singleton]; omega) fun q hq => h q (List.mem_cons_of_mem _ hq)
    rw [List.append_assoc] at ih
    rw [List.map_cons]
    let s : S := ⟨[some (.val t0), some (.own 0), some (.val (.int (k : Int))), some (.val (.str (rowS r)))], [.lst (us.map Rw.t)]⟩
    have t2 : callM (f_Row_read c0) [.val (.cst (.ref c0.Row)), .val (.str (rowS r))] s.m = rM (.val r.t) s.m := call_vals (read_all r (mem_all (h r (List.mem_cons_self ..)))) rfl rfl
    have ap : gAppend (.own 0) [.val r.t] s.m = rM (.val .non) [.lst ((us ++ [r]).map Rw.t)] := by
      rw [app_own (ts := us.map Rw.t) rfl (by rw [List.length_map]; omega), List.map_append]
      rfl
    have d : (vDrop (vMet gAppend (vVar 1) (vCons (vCMeth c0.Row (f_Row_read c0) (vCons (vVar 3) vNil)) vNil))) s = some (.nx, ⟨s.ρ, [.lst ((us ++ [r]).map Rw.t)]⟩) := st_drop (se_met rfl rfl (sa_cons t2 sa_nil) ap)
    have ne : (vNoEx (vDrop (vMet gAppend (vVar 1) (vCons (vCMeth c0.Row (f_Row_read c0) (vCons (vVar 3) vNil)) vNil)))) s = some (.nx, ⟨s.ρ, [.lst ((us ++ [r]).map Rw.t)]⟩) := by
      unfold vNoEx
      rw [d]
    exact st_loop (ρ1 := s.ρ) rfl ((body_nx ne).trans rfl) ih
theorem rows_in_eq {rs : List Rw} (hl : rs.length ≤ 900) (h : ∀ r ∈ rs, r.Drawn) : f_rows_in c0 [.val (.lst (rs.map fun r => T.str (rowS r)))] [] = some (.ok (.val (.lst (rs.map Rw.t))), []) := by
  let t0 : T := .lst (rs.map fun r => T.str (rowS r))
  have L := ri_loop (t0 := t0) rs [] 0 (by simpa using hl) h
  rw [List.nil_append] at L
  refine (sd_rt (f := b_rows_in c0) (a := .val (.lst (rs.map Rw.t))) (s1 := ⟨[some (.val t0), some (.val (.lst (rs.map Rw.t))), none, none], [.dead]⟩) ?_).trans rfl
  let s0 : S := ⟨[some (.val t0), none, none, none], []⟩
  have e0 : vSet 1 (vOwn (vLst vNil)) s0 = some (.nx, stRi t0 []) := st_set (se_own (m := []) (ts := []) rfl)
  refine st_seq e0 (st_seq (s1 := stRi t0 rs) ?_ rfl)
  show vFor _ _ _ (stRi t0 []) = _
  exact st_for (us := numT 0 (rs.map fun r => T.str (rowS r))) rfl L
theorem read_eq {rs : List Rw} (hl : rs.length ≤ 900) (h : ∀ r ∈ rs, r.Drawn) : f_Stack_read c0 [.val (.cst (.ref c0.Stack)), .val (.str (txt rs))] [] = some (.ok (.val (stackT rs)), []) := by
  have hz : SZ = 1000000 := rfl
  let s0 : S := ⟨[some (.val (.cst (.ref c0.Stack))), some (.val (.str (txt rs)))], []⟩
  have tx := txt_len h hl
  refine (sd_rt (f := b_Stack_read c0) (a := .val (stackT rs)) (s1 := s0) ?_).trans rfl
  have so := txt_ok h
  have sh : ∀ x : Str, PyData.strOk x = true → SeqAt.shaped (.str x) = true := fun x hx => shaped_str hx
  have te : vTest (vBin dEq (vVar 1) (vC (.str ""))) s0 = rM (txt rs == "") [] := by
    have g := gDat_ok (f := PyData.eqv) (s := .val (.str (txt rs))) (t := .val (.str "")) (m := []) rfl rfl (sh _ so) (sh "" (by kernel_rfl))
    have e : PyData.eqv (.str (txt rs)) (.str "") = (txt rs == "") := by rw [PyData.eqv]
    rw [e] at g
    exact sc_test (se_bin rfl se_c g)
  have at0 : ∀ f : VE, vAtC 0 c0.Stack f s0 = f s0 := fun f => by
    show (if c0.Stack = c0.Stack then f s0 else none) = f s0
    rw [if_pos rfl]
  have cut : ∀ f : VE, vCutE (vInsD (vAtC 0 c0.Stack f)) s0 = vCutE (vInsD f) s0 := fun f => by
    rw [e_vCutE, e_vCutE]
    show kCutE _ (bM (vAtC 0 c0.Stack f s0) gInsD) = kCutE _ (bM (f s0) gInsD)
    rw [at0]
  by_cases c : rs = []
  · subst c
    have e0 : (txt [] == "") = true := by kernel_rfl
    rw [e0] at te
    have mk := make_stackD (rows := []) (tup := true) (ρ := s0.ρ) (fa := vNil) (dts := [.tup []]) (ss := []) (by decide) rfl rfl
    refine st_seq_rt (st_if te (st_ret ?_))
    exact (cut _).trans mk
  · have ne : (txt rs == "") = false := by
      rw [Bool.eq_false_iff]
      intro z
      exact txt_ne h c (eq_of_beq z)
    rw [ne] at te
    have sp : vVal (vSplit (vVar 1) (vC (.str "\n"))) s0 = rM (.val (.lst (rs.map fun r => T.str (rowS r)))) [] := by
      refine se_val ?_
      show (if (("\n" : Str).length == 0) = false ∧ (txt rs).length + 2 ≤ SZ ∧ (Txt.split (txt rs) "\n").length ≤ SZ then rM ((Txt.split (txt rs) "\n").map T.str) [] else none) = _
      rw [txt_split h c, if_pos ⟨by decide, by omega, by rw [List.length_map]; omega⟩, List.map_map]
      rfl
    have ri : vCall (f_rows_in c0) (vCons (vVal (vSplit (vVar 1) (vC (.str "\n")))) vNil) s0 = rM (.val (.lst (rs.map Rw.t))) [] := se_call (sa_cons sp sa_nil) (call_vals (rows_in_eq hl h) rfl rfl)
    have mk := make_stackD (rows := rs) (tup := false) (ρ := s0.ρ) (fa := (vCons (vCall (f_rows_in c0) (vCons (vVal (vSplit (vVar 1) (vC (.str "\n")))) vNil)) vNil)) (dts := []) hl (sa_cons ri sa_nil) rfl
    refine st_seq (st_ifn te rfl) (st_ret ?_)
    exact (cut _).trans mk
end Vw.Pk
end
section
namespace Vw.Pk
open PySem PySem.Spec PyProof.Rows L2 Own Vs
theorem isi_stack {R : List Rw} {m : List MO} : gIsi (tyTab (fun _ => false) (ct_Stack c0)) (.val (stackT R)) m = rM (.val (.bl true)) m := gIsi_ok rfl rfl
theorem eq_str {a b : Str} (ha : PyData.strOk a = true) (hb : PyData.strOk b = true) {m : List MO} : gDat PyData.eqv (.val (.str a)) (.val (.str b)) m = rM (.val (.bl (a == b))) m := by
  have g := gDat_ok (f := PyData.eqv) (s := .val (.str a)) (t := .val (.str b)) (m := m) rfl rfl (shaped_str ha) (shaped_str hb)
  have e : PyData.eqv (.str a) (.str b) = (a == b) := by rw [PyData.eqv]
  rw [e] at g
  exact g
theorem stack_eqC {R Q : List Rw} (hR : ∀ r ∈ R, r.Drawn) (hQ : ∀ r ∈ Q, r.Drawn) (lR : R.length ≤ 900) (lQ : Q.length ≤ 900) {m : List MO} : callM (f_Stack_eq c0) [.val (stackT R), .val (stackT Q)] m = rM (.val (.bl (txt R == txt Q))) m := by
  refine call_vals ?_ rfl rfl
  let s : S := ⟨[some (.val (stackT R)), some (.val (stackT Q))], []⟩
  have e1 : vIsi (tyTab (fun _ => false) (ct_Stack c0)) (vVar 1) s = rM (.val (.bl true)) [] := by
    show bM (vVar 1 s) _ = _
    exact isi_stack (R := Q)
  have a1 : vB (gStrO (ok_Stack c0) (f_Stack_str c0)) (vCons (vVar 0) vNil) s = rM (.val (.str (txt R))) [] := se_b (sa_cons rfl sa_nil) (stack_str hR lR)
  have a2 : vB (gStrO (ok_Stack c0) (f_Stack_str c0)) (vCons (vVar 1) vNil) s = rM (.val (.str (txt Q))) [] := se_b (sa_cons rfl sa_nil) (stack_str hQ lQ)
  refine (sd_rt (f := b_Stack_eq c0) (a := .val (.bl (txt R == txt Q))) (s1 := s) ?_).trans rfl
  exact st_ret (se_andV e1 (se_bin a1 a2 (eq_str (txt_ok hR) (txt_ok hQ))))
theorem stack_eqT {R Q : List Rw} (hR : ∀ r ∈ R, r.Drawn) (hQ : ∀ r ∈ Q, r.Drawn) (lR : R.length ≤ 900) (lQ : Q.length ≤ 900) {f : Bool → Bool} {m : List MO} : gEqO (okq_Stack c0) (f_Stack_eq c0) f (.val (stackT R)) (.val (stackT Q)) m = rM (.val (.bl (f (txt R == txt Q)))) m := by
  have c := stack_eqC hR hQ lR lQ (m := m)
  show (if okq_Stack c0 c0.Stack (.cls c0.Stack) = true then blOf f (callM (f_Stack_eq c0) [.val (stackT R), .val (stackT Q)] m) else none) = _
  rw [if_pos (by kernel_rfl), c]
  rfl
theorem stack_ne_self {R : List Rw} (hR : ∀ r ∈ R, r.Drawn) (lR : R.length ≤ 900) {m : List MO} : gEqO (okq_Stack c0) (f_Stack_eq c0) not (.val (stackT R)) (.val (stackT R)) m = rM (.val (.bl false)) m := by
  have e := stack_eqT hR hR lR lR (f := not) (m := m)
  rw [show (txt R == txt R) = true from beq_self_eq_true _] at e
  exact e

end Vw.Pk
end
section
namespace Vw.Pk
open PySem PySem.Spec PyProof.Rows L2 Own Vs
instance : Inhabited (Nat × (Option Wo × CSt)) := ⟨(0, none, ⟨[], [], [], [], [], 0, none⟩)⟩
abbrev Lc := Nat × (Option Wo × CSt)
abbrev It := Option (Bool × Lc)
def itTh : It → Th | none => none | some (o, x) => some (o, x.2.1.getD .ok)
def outsOfL (x : Lc) : List Bool := List.replicate (min x.2.2.tries x.1) false ++ if x.1 < x.2.2.tries then [true] else []
section
variable {rows : List Rw} {o : Bool} {x : Lc} {m : List MO}
end
structure Sy where
  d : De
  h : List Kp
  its : List It
structure Sy.Ok (rows : List Rw) (k : Nat) (y : Sy) : Prop where
  d : y.d.Ok
  run : RunTh rows (begunP rows) (y.its.map itTh) y.h
  len : y.its.length = k
  its : ∀ i ∈ y.its, ∀ o x, i = some (o, x) → ∃ h, h ∈ univ rows ∧ x ∈ lcsP rows h o
end Vw.Pk
end
section
namespace Vw.Pk
open PySem PySem.Spec PyProof.Rows L2 Own Vs
def itPe : It → Pe | none => none | some (o, x) => some (o, outsOfL x)
def itA : It → T | none => .non | some (_, x) => ansL x.2
section
variable {rows : List Rw} {o : Bool} {x : Lc}
end
structure Sp (rows : List Rw) (k : Nat) (y : Sy) : Prop where
  d : y.d.Ok
  pe : PeAll rows (begunP rows) (y.its.map itPe)
  end_ : peEnd rows (begunP rows) (y.its.map itPe) = y.h
  len : y.its.length = k
  ans : (peCs rows (begunP rows) (y.its.map itPe)).map ansO = y.its.map itA
end Vw.Pk
end
section
namespace Vw.Pk
open PySem PySem.Spec PyProof.Rows L2 Own Vs
def Two (p : Nat) (h : List Kp) : Prop := ∀ x y, h[p]? = some (some x) → h[p + 1]? = some (some y) → x.1 = y.1
end Vw.Pk
end
section
namespace Vw.Pk
open PySem PySem.Spec PyProof.Rows L2 Own Vs
structure SimE (a : Nat) (s s' : CSt) : Prop where
  c : SimC a s s'
  giv : s'.given = s.given.map (shG a)
  cnl : a ≤ s.counts.length
  cnt : s'.counts = insA a none s.counts
  sto : s'.stored = s.stored
section
variable {a n n' : Nat} {s s' : CSt} {x x' : Option Wo × CSt}
variable {i i' : CIn} {y : Rw}
end
section
variable {rows : List Rw} {a : Nat} {y : Rw} {h : List Kp} {o : Bool} {w : Wi}
end

end Vw.Pk
end
section
namespace Vw.Pk
open PySem PySem.Spec PyProof.Rows L2 Own Vs
theorem po85_2 : ∀ a b : Fin 2, [a.val, b.val].Nodup → [a.val, b.val] ∈ ordersP 2 := by decide +kernel
theorem po85_3 : ∀ a b c : Fin 3, [a.val, b.val, c.val].Nodup → [a.val, b.val, c.val] ∈ ordersP 3 := by decide +kernel
theorem po85_4 : ∀ a b c d : Fin 4, [a.val, b.val, c.val, d.val].Nodup → [a.val, b.val, c.val, d.val] ∈ ordersP 4 := by decide +kernel
theorem perm_orders35 {n : Nat} (hn : n ≤ 4) {o : List Nat} (p : o.Perm (List.range n)) : o ∈ ordersP n := by
  have hl : o.length = n := by rw [p.length_eq, List.length_range]
  have hm : ∀ i ∈ o, i < n := fun i hi => List.mem_range.mp (p.mem_iff.mp hi)
  have nd : o.Nodup := p.nodup_iff.mpr List.nodup_range
  match n, hn, o, hl with
  | 0, _, [], _ => decide
  | 1, _, [a], _ =>
    have := hm a (List.mem_cons_self ..)
    rw [show a = 0 from by omega]
    decide
  | 2, _, [a, b], _ => exact po85_2 ⟨a, hm a (by simp)⟩ ⟨b, hm b (by simp)⟩ nd
  | 3, _, [a, b, c], _ => exact po85_3 ⟨a, hm a (by simp)⟩ ⟨b, hm b (by simp)⟩ ⟨c, hm c (by simp)⟩ nd
  | 4, _, [a, b, c, d], _ => exact po85_4 ⟨a, hm a (by simp)⟩ ⟨b, hm b (by simp)⟩ ⟨c, hm c (by simp)⟩ ⟨d, hm d (by simp)⟩ nd
theorem listrg35 {f : VE} {s : S} {n : Nat} {m : List MO} (h : f s = rM (.val (.int (n : Int))) m) (hn : n ≤ 60) : vListRg f s = rM ((List.range n).map fun i : Nat => T.int (i : Int)) m := by
  have hz : SZ = 1000000 := rfl
  unfold vListRg
  rw [h]
  show gRange (.val (.int (n : Int))) m = _
  exact range_ok (by omega)
theorem sread35 {rs : List Rw} (h : ∀ r ∈ rs, r.Drawn) (hl : rs.length ≤ 900) {fe : VE} {s : S} (a : fe s = rM (.val (.str (txt rs))) s.m) : vCMeth c0.Stack (f_Stack_read c0) (vCons fe vNil) s = rM (.val (stackT rs)) s.m := by
  have rd : callM (f_Stack_read c0) [.val (.cst (.ref c0.Stack)), .val (.str (txt rs))] s.m = rM (.val (stackT rs)) s.m := call_vals (read_eq hl h) rfl rfl
  have a1 : vCons fe vNil s = rM [.val (.str (txt rs))] s.m := sa_cons a sa_nil
  show bM (vCons fe vNil s) _ = _
  rw [a1]
  exact rd
theorem add_tup35 {xs ys : List T} (h : xs.length + ys.length ≤ SZ) {m : List MO} : gAdd (.val (.tup xs)) (.val (.tup ys)) m = rM (.val (.tup (xs ++ ys))) m := by
  show (if xs.length + ys.length ≤ SZ then _ else _) = _
  rw [if_pos h]
theorem cut_none35 {ρ : List (Option Sl)} {m : List MO} (h : ρ.all (slO 0) = true) : cutSt 0 ⟨ρ, m⟩ = ⟨ρ, []⟩ := by
  unfold cutSt
  rw [if_pos ⟨Nat.zero_le _, h, by simp⟩]
  simp
theorem body_nx35 {L : List Nat} {f : VS} {s s1 : S} (h : f s = some (.nx, s1)) (hm : s.m = []) (ha : (Vs.wipe L s1.ρ).all (slO 0) = true) : vBody L f s = some (.nx, ⟨Vs.wipe L s1.ρ, []⟩) := by
  rw [body_nx h, hm]
  show some (Fl.nx, cutSt 0 _) = _
  rw [cut_none35 ha]
theorem text35 {rs : List Rw} (h : ∀ r ∈ rs, r.Drawn) (hl : rs.length ≤ 900) {m : List MO} : callM (f_text c0) [.val (rowsL rs)] m = rM (.val (.str (txt rs))) m := by
  refine call_vals ?_ rfl rfl
  let s : S := ⟨[some (.val (rowsL rs)), none], []⟩
  have hz : SZ = 1000000 := rfl
  have c : vComp [1] (vItems (vVar 0)) (vgName 1) vYes (vCall (f_row_text c0) (vCons (vVar 1) vNil)) s = rM (rs.map fun r => T.str (rowS r)) [] :=
    comp_map (xs := rs) (t := lawT) rfl (fun r hr => ⟨s.ρ.set 1 (some (.val (lawT r))), rfl, se_call (sa_cons rfl sa_nil) (call_vals (text_all r (mem_all (h r hr))) rfl rfl)⟩) (by omega)
  refine (sd_rt (f := b_text c0) (a := .val (.str (txt rs))) (s1 := s) ?_).trans rfl
  exact st_ret (se_m1 rfl rfl (se_val c) (join_rows h hl))
theorem bases35 {s : S} {ns : List Int} {m : List MO} (hs : s.ρ[0]? = some (some (.val (.seq (ns.map T.int))))) (hm : s.m = m) : ∃ ts, vRange (vB (gMM fun i j => if j > i then j else i) (vCons (vC (.int 1)) (vCons (vB (gMM fun i j => if j < i then j else i) (vCons (vC (.int 3)) (vCons (vB gLen (vCons (vVar 0) vNil)) vNil))) vNil))) s = rM ts m ∧ ∀ t ∈ ts, ∃ b : Nat, b ≤ 2 ∧ t = .int (b : Int) := by
  subst hm
  have h1 : vB gLen (vCons (vVar 0) vNil) s = rM (.val (.int ((ns.map T.int).length : Int))) s.m := se_b (sa_cons (se_var hs) sa_nil) rfl
  generalize hn : (((ns.map T.int).length : Nat) : Int) = n at h1
  have h0 : 0 ≤ n := by omega
  have h2 : vB (gMM fun i j => if j < i then j else i) (vCons (vC (.int 3)) (vCons (vB gLen (vCons (vVar 0) vNil)) vNil)) s = rM (.val (.int (if n < 3 then n else 3))) s.m := se_b (sa_cons se_c (sa_cons h1 sa_nil)) rfl
  generalize hy : (if n < 3 then n else 3) = y at h2
  have h3 : vB (gMM fun i j => if j > i then j else i) (vCons (vC (.int 1)) (vCons (vB (gMM fun i j => if j < i then j else i) (vCons (vC (.int 3)) (vCons (vB gLen (vCons (vVar 0) vNil)) vNil))) vNil)) s = rM (.val (.int (if y > 1 then y else 1))) s.m := se_b (sa_cons se_c (sa_cons h2 sa_nil)) rfl
  unfold vRange
  rw [h3]
  by_cases q : y > 1
  · rw [if_pos q]
    have : y = 2 ∨ y = 3 := by split at hy <;> omega
    rcases this with this | this <;> subst this
    · exact ⟨[.int 0, .int 1], rfl, fun t ht => by
        rcases List.mem_cons.mp ht with rfl | ht
        · exact ⟨0, by omega, rfl⟩
        · rw [List.mem_singleton.mp ht]; exact ⟨1, by omega, rfl⟩⟩
    · exact ⟨[.int 0, .int 1, .int 2], rfl, fun t ht => by
        rcases List.mem_cons.mp ht with rfl | ht
        · exact ⟨0, by omega, rfl⟩
        rcases List.mem_cons.mp ht with rfl | ht
        · exact ⟨1, by omega, rfl⟩
        · rw [List.mem_singleton.mp ht]; exact ⟨2, by omega, rfl⟩⟩
  · rw [if_neg q]
    exact ⟨[.int 0], rfl, fun t ht => by rw [List.mem_singleton.mp ht]; exact ⟨0, by omega, rfl⟩⟩
def nT (o : List Nat) : List T := o.map fun i : Nat => T.int (i : Int)
def cutA (o : List Nat) (a : Nat) (x : T) : T := .tup ((nT o).take a ++ [x] ++ (nT o).drop (a + 1))
def strI (i : Nat) : Str := toString (i : Int)
def odd1 (n : Nat) (o : List Nat) (a : Nat) : List T := [.lst (nT o), .tup ((nT o).drop 1), .tup (nT o ++ [.int (n : Int)]), cutA o a (.int (n : Int)), .non, .str "0", .tup []]
def odd2 (o : List Nat) (a : Nat) : List T := [cutA o a (.int (0 - 1)), cutA o a .non, .tup [.tup (nT o)]]
def odd3 (o : List Nat) (a : Nat) : List T := [cutA o a (.str (strI (o.getD a 0))), .tup (nT o ++ (nT o).take 1), .bl true, .int 0]
def odd4 (o : List Nat) (a : Nat) : List T := [.tup (o.map fun i : Nat => T.bl (decide ((i : Int) = 1))), cutA o a (.tup [.int ((o.getD a 0 : Nat) : Int)])]
def oddV (n : Nat) (o : List Nat) (a : Nat) : List T := odd1 n o a ++ odd2 o a ++ odd3 o a ++ odd4 o a
def okEx (C : Addr) (r : Option (Out Sl × List MO)) : Bool := match r with
  | some (.ex D [], []) => C == D
  | _ => false
theorem of_okEx {C : Addr} {r : Option (Out Sl × List MO)} (h : okEx C r = true) : r = some (.ex C [], []) := by
  unfold okEx at h
  split at h
  · rw [eq_of_beq h]
  · cases h
def ref35 (n : Nat) (v : T) : Bool := okEx c0.InvalidOrder (callM (f_check_order c0) [.val v, .val (.int (n : Int))] [])
def oddB (n : Nat) : Bool := (ordersP n).all fun o => (List.range n).all fun a => (oddV n o a).all fun v => ref35 n v
theorem odd_b : ∀ n : Nat, n ≤ 4 → oddB n = true
  | 0, _ => by kernel_rfl
  | 1, _ => by kernel_rfl
  | 2, _ => by kernel_rfl
  | 3, _ => by kernel_rfl
  | 4, _ => by kernel_rfl
  | n + 5, h => absurd h (by omega)
theorem odd_ref {n : Nat} (hn : n ≤ 4) {o : List Nat} (ho : o ∈ ordersP n) {a : Nat} (ha : a < n) {v : T} (hv : v ∈ oddV n o a) : callM (f_check_order c0) [.val v, .val (.int (n : Int))] [] = some (.ex c0.InvalidOrder [], []) :=
  of_okEx (List.all_eq_true.mp (List.all_eq_true.mp (List.all_eq_true.mp (odd_b n hn) o ho) a (List.mem_range.mpr ha)) v hv)
def Nest1 (t : T) : Prop := ∃ y, t = .tup [y] ∨ t = .lst [y]
def Nest2 (t : T) : Prop := ∃ y, Nest1 y ∧ (t = .tup [y] ∨ t = .lst [y])
theorem nest_ref {n : Nat} {v : T} (h : Nest2 v) : callM (f_check_order c0) [.val v, .val (.int (n : Int))] [] = some (.ex c0.InvalidOrder [], []) := by
  obtain ⟨y, ⟨z, hz⟩, hy⟩ := h
  rcases hy with rfl | rfl
  · rcases hz with rfl | rfl <;> kernel_rfl
  · kernel_rfl
theorem sd_ex {nl : Nat} {args : List Sl} {f : VS} {m : List MO} {C : Addr} {fs : List (Str × T)} {s1 : S} (h : f ⟨args.map some ++ List.replicate (nl - args.length) none, m⟩ = some (.ex C fs, s1)) : vDef nl f args m = some (.ex C fs, cutO m.length (.ex C fs) s1.m) := by unfold vDef; rw [h]
theorem stack_bad {rows : List Rw} (h4 : rows.length ≤ 4) {v : T} (ck : callM (f_check_order c0) [.val v, .val (.int (rows.length : Int))] [] = some (.ex c0.InvalidOrder [], [])) : f_stack_of c0 [.val (.lst (rows.map Rw.t)), .val v] [] = some (.ex c0.InvalidOrder [], []) := by
  have gd : callM (f_rows_of c0) [.val (.lst (rows.map Rw.t))] [] = rM (.val (.tup (rows.map Rw.t))) [] := rows_of_call (by omega) false
  let s1 : S := ⟨[some (.val (.lst (rows.map Rw.t))), some (.val v), some (.val (.tup (rows.map Rw.t))), none], []⟩
  have ln : vB gLen (vCons (vVar 2) vNil) s1 = rM (.val (.int (rows.length : Int))) [] := by
    refine se_b (sa_cons rfl sa_nil) ?_
    show rM (Sl.val (.int ((rows.map Rw.t).length : Int))) _ = _
    rw [List.length_map]
  have ar : (vCons (vVar 1) (vCons (vB gLen (vCons (vVar 2) vNil)) vNil)) s1 = rM [.val v, .val (.int (rows.length : Int))] [] := sa_cons rfl (sa_cons ln sa_nil)
  have ex : vDrop (vCall (f_check_order c0) (vCons (vVar 1) (vCons (vB gLen (vCons (vVar 2) vNil)) vNil))) s1 = some (.ex c0.InvalidOrder [], ⟨s1.ρ, []⟩) := by
    show bS s1.ρ (bM ((vCons (vVar 1) (vCons (vB gLen (vCons (vVar 2) vNil)) vNil)) s1) fun ss m => callM (f_check_order c0) ss m) _ = _
    rw [ar]
    show bS s1.ρ (callM (f_check_order c0) [.val v, .val (.int (rows.length : Int))] []) _ = _
    rw [ck]
    rfl
  refine (sd_ex (f := b_stack_of c0) (C := c0.InvalidOrder) (fs := []) (s1 := ⟨s1.ρ, []⟩) ?_).trans rfl
  refine st_seq (s1 := s1) (st_set (se_call (sa_cons rfl sa_nil) gd)) ?_
  show (match vDrop (vCall (f_check_order c0) (vCons (vVar 1) (vCons (vB gLen (vCons (vVar 2) vNil)) vNil))) s1 with
    | none => none
    | some (.nx, s') => _
    | some (fl, s') => some (fl, s')) = _
  rw [ex]
def sH (lot v f : T) : S := ⟨[some (.val lot), some (.val v), some (.val f), none], []⟩
theorem heard_ok {rows : List Rw} (hd : ∀ r ∈ rows, r.Drawn) (h4 : rows.length ≤ 4) {o : List Nat} (ho : o ∈ ordersP rows.length) : f_heard c0 [.val (.lst (rows.map Rw.t)), .val (orderT o)] [] = some (.ok (.val (.str (txt (permR rows o)))), []) := by
  let lot : T := .lst (rows.map Rw.t)
  have p := permR_perm h4 ho
  have st : gStrO (ok_Stack c0) (f_Stack_str c0) [.val (stackT (permR rows o))] [] = rM (.val (.str (txt (permR rows o)))) [] := stack_str (fun r hr => hd r (p.mem_iff.mp hr)) (by have := p.length_eq; omega)
  refine (sd_rt (f := b_heard c0) (a := .val (.str (txt (permR rows o)))) (s1 := sH lot (orderT o) (.str (txt (permR rows o)))) ?_).trans rfl
  have e : (vSet 2 (vB (gStrO (ok_Stack c0) (f_Stack_str c0)) (vCons (vCall (f_stack_of c0) (vCons (vVar 0) (vCons (vVar 1) vNil))) vNil))) (sH lot (orderT o) .non) = some (.nx, sH lot (orderT o) (.str (txt (permR rows o)))) := st_set (se_b (sa_cons (se_call (sa_cons rfl (sa_cons rfl sa_nil)) (stack_of_call h4 false ho)) sa_nil) st)
  have e2 : (vTry (mt_InvalidOrder c0) 3 (vSet 2 (vB (gStrO (ok_Stack c0) (f_Stack_str c0)) (vCons (vCall (f_stack_of c0) (vCons (vVar 0) (vCons (vVar 1) vNil))) vNil))) (xSet 2 (xIf (xAnd (xIsi c0.InvalidOrder true) (xNot (xIsi c0.InvalidOrder false))) (fun _ _ => some (.str "order")) (fun _ _ => some (.str "other"))))) (sH lot (orderT o) .non) = some (.nx, sH lot (orderT o) (.str (txt (permR rows o)))) := by
    unfold vTry
    rw [e]
  exact st_seq (s1 := sH lot (orderT o) .non) rfl (st_seq e2 (st_ret rfl))
theorem heard_bad {lot v : T} (h : f_stack_of c0 [.val lot, .val v] [] = some (.ex c0.InvalidOrder [], [])) : f_heard c0 [.val lot, .val v] [] = some (.ok (.val (.str "order")), []) := by
  refine (sd_rt (f := b_heard c0) (a := .val (.str "order")) (s1 := sH lot v (.str "order")) ?_).trans rfl
  have cm : callM (f_stack_of c0) [.val lot, .val v] [] = some (.ex c0.InvalidOrder [], []) := by
    show (match f_stack_of c0 [.val lot, .val v] [] with
      | some (o, sub') => if (0 : Nat) ≤ sub'.length then some (backO [] 0 o, putAll [] [] sub') else none
      | none => none) = _
    rw [h]
    rfl
  have e : (vSet 2 (vB (gStrO (ok_Stack c0) (f_Stack_str c0)) (vCons (vCall (f_stack_of c0) (vCons (vVar 0) (vCons (vVar 1) vNil))) vNil))) (sH lot v .non) = some (.ex c0.InvalidOrder [], sH lot v .non) := by
    have a0 : vCall (f_stack_of c0) (vCons (vVar 0) (vCons (vVar 1) vNil)) (sH lot v .non) = some (.ex c0.InvalidOrder [], []) := se_call (sa_cons rfl (sa_cons rfl sa_nil)) cm
    have a1 : vCons (vCall (f_stack_of c0) (vCons (vVar 0) (vCons (vVar 1) vNil))) vNil (sH lot v .non) = some (.ex c0.InvalidOrder [], []) := by
      show bM (vCall (f_stack_of c0) (vCons (vVar 0) (vCons (vVar 1) vNil)) (sH lot v .non)) _ = _
      rw [a0]
      rfl
    have a2 : vB (gStrO (ok_Stack c0) (f_Stack_str c0)) (vCons (vCall (f_stack_of c0) (vCons (vVar 0) (vCons (vVar 1) vNil))) vNil) (sH lot v .non) = some (.ex c0.InvalidOrder [], []) := by
      show bM (vCons (vCall (f_stack_of c0) (vCons (vVar 0) (vCons (vVar 1) vNil))) vNil (sH lot v .non)) _ = _
      rw [a1]
      rfl
    show bS _ (vB (gStrO (ok_Stack c0) (f_Stack_str c0)) (vCons (vCall (f_stack_of c0) (vCons (vVar 0) (vCons (vVar 1) vNil))) vNil) (sH lot v .non)) _ = _
    rw [a2]
    rfl
  have e2 : (vTry (mt_InvalidOrder c0) 3 (vSet 2 (vB (gStrO (ok_Stack c0) (f_Stack_str c0)) (vCons (vCall (f_stack_of c0) (vCons (vVar 0) (vCons (vVar 1) vNil))) vNil))) (xSet 2 (xIf (xAnd (xIsi c0.InvalidOrder true) (xNot (xIsi c0.InvalidOrder false))) (fun _ _ => some (.str "order")) (fun _ _ => some (.str "other"))))) (sH lot v .non) = some (.nx, sH lot v (.str "order")) := by
    unfold vTry
    rw [e]
    rfl
  exact st_seq (s1 := sH lot v .non) rfl (st_seq e2 (st_ret rfl))
theorem heard_odd {rows : List Rw} (h4 : rows.length ≤ 4) {v : T} (ck : callM (f_check_order c0) [.val v, .val (.int (rows.length : Int))] [] = some (.ex c0.InvalidOrder [], [])) {m : List MO} : callM (f_heard c0) [.val (.lst (rows.map Rw.t)), .val v] m = rM (.val (.str "order")) m := call_vals (heard_bad (stack_bad h4 ck)) rfl rfl
theorem lot_len1 {n : Nat} (h2 : 1 ≤ n) (hn : n ≤ 4) {d : De} (h : d.Ok) : 1 ≤ (lotP n d).1.length := by
  obtain ⟨h1, ⟨zs, hp, hs⟩, hd⟩ := rows_ok (n := n) h
  generalize hx : rowsP n d = x at *
  obtain ⟨rs, d1⟩ := x
  simp only at h1 hs hd
  have e : lotP n d = (cut3 (rs.map lotR), d1) := by unfold lotP; rw [hx]
  rw [e]
  have lr : rs.length = n := by
    have : rs.length = (rs.map Rw.sort).length := by simp
    rw [this, hs, List.length_take, hp.length_eq]
    show min n 12 = n
    omega
  show 1 ≤ (cut3 (rs.map lotR)).length
  unfold cut3
  split
  · rw [List.length_take, List.length_map]; omega
  · rw [List.length_map]; omega

end Vw.Pk
end
section
namespace Vw.Pk
open PySem PySem.Spec PyProof.Rows L2 Own Vs
theorem loop_rel35 {γ : Type} {St : γ → S} {g : VG} {b : VS} (I : γ → Prop) : ∀ (ts : List T), (∀ a, I a → ∀ t ∈ ts, ∃ ρ1 a', g t (St a).ρ = some ρ1 ∧ (b ⟨ρ1, (St a).m⟩ = some (.nx, St a') ∨ b ⟨ρ1, (St a).m⟩ = some (.ct, St a')) ∧ I a') → ∀ a, I a → ∃ a', I a' ∧ vLoop g b ts (St a) = some (.nx, St a')
  | [], _, a, ia => ⟨a, ia, rfl⟩
  | t :: r, h, a, ia => by
    obtain ⟨ρ1, a1, e1, e2, i1⟩ := h a ia t (List.mem_cons_self ..)
    obtain ⟨a2, i2, e3⟩ := loop_rel35 I r (fun a ia t ht => h a ia t (List.mem_cons_of_mem _ ht)) a1 i1
    refine ⟨a2, i2, ?_⟩
    rw [vLoop, e1]
    rcases e2 with e2 | e2 <;> (simp only [e2]; exact e3)
theorem slV_take35 {f g : VE} {s : S} {ts : List T} {n : Nat} (h1 : f s = rM (.val (.tup ts)) s.m) (h2 : g s = rM (.val (.int (n : Int))) s.m) : vSliceV f vNoPart (vPart g) s = rM (.val (.tup (ts.take n))) s.m := by
  unfold vSliceV
  rw [h1]
  show bM (vPart g ⟨s.ρ, s.m⟩) _ = _
  unfold vPart
  rw [show g ⟨s.ρ, s.m⟩ = rM (.val (.int (n : Int))) s.m from h2]
  show rM (Sl.val (.tup (cutT ts none (some (n : Int))))) s.m = _
  rw [cut_take]
theorem slV_drop35 {f g : VE} {s : S} {ts : List T} {n : Nat} (h1 : f s = rM (.val (.tup ts)) s.m) (h2 : g s = rM (.val (.int (n : Int))) s.m) : vSliceV f (vPart g) vNoPart s = rM (.val (.tup (ts.drop n))) s.m := by
  unfold vSliceV
  rw [h1]
  show bM (vPart g ⟨s.ρ, s.m⟩) _ = _
  unfold vPart
  rw [show g ⟨s.ρ, s.m⟩ = rM (.val (.int (n : Int))) s.m from h2]
  show rM (Sl.val (.tup (cutT ts (some (n : Int)) none))) s.m = _
  rw [cut_drop]
def bA : VS := (vBody [13] (vSeq (vSet 13 (vCMeth c0.Stack (f_Stack_read c0) (vCons (vCall (f_text c0) (vCons (vVal (vComp [6] (vItems (vVar 5)) (vgName 6) vYes (vBin gIx (vVar 4) (vVar 6)))) vNil)) vNil))) (vIf (vOr (vTest (vBin (gEqO (okq_Stack c0) (f_Stack_eq c0) not) (vCall (f_stack_of c0) (vCons (vVar 11) (vCons (vVar 5) vNil))) (vVar 13))) (vTest (vBin (gEqO (okq_Stack c0) (f_Stack_eq c0) not) (vCall (f_stack_of c0) (vCons (vB gTupOf (vCons (vVar 11) vNil)) (vCons (vVar 5) vNil))) (vVar 13)))) (vRet (vC (.bl false))) vNext)))
def bD : VS := (vBody [9] (vSet 8 (vIfE (vTest (vBin dGt (vCall (f_draw c0) (vCons (vVar 2) (vCons (vC (.int 3)) vNil))) (vC (.int 0)))) (vTup (vCons (vVar 8) vNil)) (vVal (vLst (vCons (vVar 8) vNil))))))
def bV : VS := (vBody [10] (vIf (vTest (vBin dNe (vCall (f_heard c0) (vCons (vVar 11) (vCons (vVar 10) vNil))) (vC (.str "order")))) (vRet (vC (.bl false))) vNext))
def bT : VS := (vBody [3, 4, 6, 7, 8, 9, 10, 11, 12, 13] (vSeq (vSet 4 (vCall (f_lot_rows c0) (vCons (vVar 2) (vCons (vBin gAdd (vC (.int 1)) (vCall (f_draw c0) (vCons (vVar 2) (vCons (vC (.int 4)) vNil)))) vNil)))) (vSeq (vPar 11 12 (vCons (vCall (f_made_rows c0) (vCons (vVar 4) vNil)) (vCons (vB gLen (vCons (vVar 4) vNil)) vNil))) (vSeq (vPre [13] (vFor (vItems (vCall (f_orders c0) (vCons (vVar 12) vNil))) (vgName 5) (vBody [13] (vSeq (vSet 13 (vCMeth c0.Stack (f_Stack_read c0) (vCons (vCall (f_text c0) (vCons (vVal (vComp [6] (vItems (vVar 5)) (vgName 6) vYes (vBin gIx (vVar 4) (vVar 6)))) vNil)) vNil))) (vIf (vOr (vTest (vBin (gEqO (okq_Stack c0) (f_Stack_eq c0) not) (vCall (f_stack_of c0) (vCons (vVar 11) (vCons (vVar 5) vNil))) (vVar 13))) (vTest (vBin (gEqO (okq_Stack c0) (f_Stack_eq c0) not) (vCall (f_stack_of c0) (vCons (vB gTupOf (vCons (vVar 11) vNil)) (vCons (vVar 5) vNil))) (vVar 13)))) (vRet (vC (.bl false))) vNext))))) (vSeq (vSet 5 (vB gTupOf (vCons (vCall (f_mixed c0) (vCons (vVar 2) (vCons (vVal (vListRg (vVar 12))) vNil))) vNil))) (vSeq (vSet 6 (vCall (f_draw c0) (vCons (vVar 2) (vCons (vVar 12) vNil)))) (vSeq (vSet 7 (vVal (vLst (vCons (vVal (vBN gListOf (vCons (vVar 5) vNil))) (vCons (vSliceV (vVar 5) (vPart (vC (.int 1))) vNoPart) (vCons (vBin gAdd (vVar 5) (vTup (vCons (vVar 12) vNil))) (vCons (vBin gAdd (vBin gAdd (vSliceV (vVar 5) vNoPart (vPart (vVar 6))) (vTup (vCons (vVar 12) vNil))) (vSliceV (vVar 5) (vPart (vBin gAdd (vVar 6) (vC (.int 1)))) vNoPart)) (vCons (vC .non) (vCons (vC (.str "0")) (vCons (vTup vNil) vNil)))))))))) (vSeq (vSet 7 (vVal (vBinN gCat (vVar 7) (vVal (vLst (vCons (vBin gAdd (vBin gAdd (vSliceV (vVar 5) vNoPart (vPart (vVar 6))) (vTup (vCons (vBin dSub (vC (.int 0)) (vC (.int 1))) vNil))) (vSliceV (vVar 5) (vPart (vBin gAdd (vVar 6) (vC (.int 1)))) vNoPart)) (vCons (vBin gAdd (vBin gAdd (vSliceV (vVar 5) vNoPart (vPart (vVar 6))) (vTup (vCons (vC .non) vNil))) (vSliceV (vVar 5) (vPart (vBin gAdd (vVar 6) (vC (.int 1)))) vNoPart)) (vCons (vTup (vCons (vVar 5) vNil)) vNil)))))))) (vSeq (vSet 7 (vVal (vBinN gCat (vVar 7) (vVal (vLst (vCons (vBin gAdd (vBin gAdd (vSliceV (vVar 5) vNoPart (vPart (vVar 6))) (vTup (vCons (vB gStrF (vCons (vBin gIx (vVar 5) (vVar 6)) vNil)) vNil))) (vSliceV (vVar 5) (vPart (vBin gAdd (vVar 6) (vC (.int 1)))) vNoPart)) (vCons (vBin gAdd (vVar 5) (vSliceV (vVar 5) vNoPart (vPart (vC (.int 1))))) (vCons (vC (.bl true)) (vCons (vC (.int 0)) vNil))))))))) (vSeq (vSet 7 (vVal (vBinN gCat (vVar 7) (vVal (vLst (vCons (vB gTupOf (vCons (vVal (vComp [14] (vItems (vVar 5)) (vgName 14) vYes (vBin dEq (vVar 14) (vC (.int 1))))) vNil)) (vCons (vBin gAdd (vBin gAdd (vSliceV (vVar 5) vNoPart (vPart (vVar 6))) (vTup (vCons (vTup (vCons (vBin gIx (vVar 5) (vVar 6)) vNil)) vNil))) (vSliceV (vVar 5) (vPart (vBin gAdd (vVar 6) (vC (.int 1)))) vNoPart)) vNil))))))) (vSeq (vSet 8 (vCall (f_pick c0) (vCons (vVar 2) (vCons (vVal (vLst (vCons (vC (.int 0)) (vCons (vC .non) (vCons (vC (.str "0")) (vCons (vBin gIx (vVar 5) (vC (.int 0))) vNil)))))) vNil)))) (vSeq (vPre [9] (vFor (vRange (vC (.int 8))) (vgName 9) (vBody [9] (vSet 8 (vIfE (vTest (vBin dGt (vCall (f_draw c0) (vCons (vVar 2) (vCons (vC (.int 3)) vNil))) (vC (.int 0)))) (vTup (vCons (vVar 8) vNil)) (vVal (vLst (vCons (vVar 8) vNil)))))))) (vSeq (vPre [10] (vFor (vItems (vVal (vBinN gCat (vVar 7) (vVal (vLst (vCons (vVar 8) vNil)))))) (vgName 10) (vBody [10] (vIf (vTest (vBin dNe (vCall (f_heard c0) (vCons (vVar 11) (vCons (vVar 10) vNil))) (vC (.str "order")))) (vRet (vC (.bl false))) vNext)))) (vIf (vTest (vBin dNe (vCall (f_heard c0) (vCons (vVar 11) (vCons (vVar 5) vNil))) (vCall (f_text c0) (vCons (vVal (vComp [6] (vItems (vVar 5)) (vgName 6) vYes (vBin gIx (vVar 4) (vVar 6)))) vNil)))) (vRet (vC (.bl false))) vNext))))))))))))))
def lwOut : VS := (vBody [1, 2, 3, 4, 6, 7, 8, 9, 10, 11, 12, 13] (vSeq (vSet 2 (vCall (f_source c0) (vCons (vVar 0) (vCons (vVar 1) vNil)))) (vPre [3, 4, 6, 7, 8, 9, 10, 11, 12, 13] (vFor (vRange (vC (.int 4))) (vgName 3) (vBody [3, 4, 6, 7, 8, 9, 10, 11, 12, 13] (vSeq (vSet 4 (vCall (f_lot_rows c0) (vCons (vVar 2) (vCons (vBin gAdd (vC (.int 1)) (vCall (f_draw c0) (vCons (vVar 2) (vCons (vC (.int 4)) vNil)))) vNil)))) (vSeq (vPar 11 12 (vCons (vCall (f_made_rows c0) (vCons (vVar 4) vNil)) (vCons (vB gLen (vCons (vVar 4) vNil)) vNil))) (vSeq (vPre [13] (vFor (vItems (vCall (f_orders c0) (vCons (vVar 12) vNil))) (vgName 5) (vBody [13] (vSeq (vSet 13 (vCMeth c0.Stack (f_Stack_read c0) (vCons (vCall (f_text c0) (vCons (vVal (vComp [6] (vItems (vVar 5)) (vgName 6) vYes (vBin gIx (vVar 4) (vVar 6)))) vNil)) vNil))) (vIf (vOr (vTest (vBin (gEqO (okq_Stack c0) (f_Stack_eq c0) not) (vCall (f_stack_of c0) (vCons (vVar 11) (vCons (vVar 5) vNil))) (vVar 13))) (vTest (vBin (gEqO (okq_Stack c0) (f_Stack_eq c0) not) (vCall (f_stack_of c0) (vCons (vB gTupOf (vCons (vVar 11) vNil)) (vCons (vVar 5) vNil))) (vVar 13)))) (vRet (vC (.bl false))) vNext))))) (vSeq (vSet 5 (vB gTupOf (vCons (vCall (f_mixed c0) (vCons (vVar 2) (vCons (vVal (vListRg (vVar 12))) vNil))) vNil))) (vSeq (vSet 6 (vCall (f_draw c0) (vCons (vVar 2) (vCons (vVar 12) vNil)))) (vSeq (vSet 7 (vVal (vLst (vCons (vVal (vBN gListOf (vCons (vVar 5) vNil))) (vCons (vSliceV (vVar 5) (vPart (vC (.int 1))) vNoPart) (vCons (vBin gAdd (vVar 5) (vTup (vCons (vVar 12) vNil))) (vCons (vBin gAdd (vBin gAdd (vSliceV (vVar 5) vNoPart (vPart (vVar 6))) (vTup (vCons (vVar 12) vNil))) (vSliceV (vVar 5) (vPart (vBin gAdd (vVar 6) (vC (.int 1)))) vNoPart)) (vCons (vC .non) (vCons (vC (.str "0")) (vCons (vTup vNil) vNil)))))))))) (vSeq (vSet 7 (vVal (vBinN gCat (vVar 7) (vVal (vLst (vCons (vBin gAdd (vBin gAdd (vSliceV (vVar 5) vNoPart (vPart (vVar 6))) (vTup (vCons (vBin dSub (vC (.int 0)) (vC (.int 1))) vNil))) (vSliceV (vVar 5) (vPart (vBin gAdd (vVar 6) (vC (.int 1)))) vNoPart)) (vCons (vBin gAdd (vBin gAdd (vSliceV (vVar 5) vNoPart (vPart (vVar 6))) (vTup (vCons (vC .non) vNil))) (vSliceV (vVar 5) (vPart (vBin gAdd (vVar 6) (vC (.int 1)))) vNoPart)) (vCons (vTup (vCons (vVar 5) vNil)) vNil)))))))) (vSeq (vSet 7 (vVal (vBinN gCat (vVar 7) (vVal (vLst (vCons (vBin gAdd (vBin gAdd (vSliceV (vVar 5) vNoPart (vPart (vVar 6))) (vTup (vCons (vB gStrF (vCons (vBin gIx (vVar 5) (vVar 6)) vNil)) vNil))) (vSliceV (vVar 5) (vPart (vBin gAdd (vVar 6) (vC (.int 1)))) vNoPart)) (vCons (vBin gAdd (vVar 5) (vSliceV (vVar 5) vNoPart (vPart (vC (.int 1))))) (vCons (vC (.bl true)) (vCons (vC (.int 0)) vNil))))))))) (vSeq (vSet 7 (vVal (vBinN gCat (vVar 7) (vVal (vLst (vCons (vB gTupOf (vCons (vVal (vComp [14] (vItems (vVar 5)) (vgName 14) vYes (vBin dEq (vVar 14) (vC (.int 1))))) vNil)) (vCons (vBin gAdd (vBin gAdd (vSliceV (vVar 5) vNoPart (vPart (vVar 6))) (vTup (vCons (vTup (vCons (vBin gIx (vVar 5) (vVar 6)) vNil)) vNil))) (vSliceV (vVar 5) (vPart (vBin gAdd (vVar 6) (vC (.int 1)))) vNoPart)) vNil))))))) (vSeq (vSet 8 (vCall (f_pick c0) (vCons (vVar 2) (vCons (vVal (vLst (vCons (vC (.int 0)) (vCons (vC .non) (vCons (vC (.str "0")) (vCons (vBin gIx (vVar 5) (vC (.int 0))) vNil)))))) vNil)))) (vSeq (vPre [9] (vFor (vRange (vC (.int 8))) (vgName 9) (vBody [9] (vSet 8 (vIfE (vTest (vBin dGt (vCall (f_draw c0) (vCons (vVar 2) (vCons (vC (.int 3)) vNil))) (vC (.int 0)))) (vTup (vCons (vVar 8) vNil)) (vVal (vLst (vCons (vVar 8) vNil)))))))) (vSeq (vPre [10] (vFor (vItems (vVal (vBinN gCat (vVar 7) (vVal (vLst (vCons (vVar 8) vNil)))))) (vgName 10) (vBody [10] (vIf (vTest (vBin dNe (vCall (f_heard c0) (vCons (vVar 11) (vCons (vVar 10) vNil))) (vC (.str "order")))) (vRet (vC (.bl false))) vNext)))) (vIf (vTest (vBin dNe (vCall (f_heard c0) (vCons (vVar 11) (vCons (vVar 5) vNil))) (vCall (f_text c0) (vCons (vVal (vComp [6] (vItems (vVar 5)) (vgName 6) vYes (vBin gIx (vVar 4) (vVar 6)))) vNil)))) (vRet (vC (.bl false))) vNext))))))))))))))))))
abbrev vT (t : T) : Option Sl := some (.val t)
structure W35 where
  t : T
  b : Nat
  rows : List Rw
structure W35.Ok (w : W35) : Prop where
  lot : LotOk w.rows
  one : 1 ≤ w.rows.length
abbrev W35.n (w : W35) : Nat := w.rows.length
abbrev W35.sl (w : W35) (x3 x5 x6 x7 x8 x9 x10 x13 : Option Sl) : List (Option Sl) := [vT w.t, vT (.int (w.b : Int)), some (.own 1), x3, vT (rowsL w.rows), x5, x6, x7, x8, x9, x10, vT (.lst (w.rows.map Rw.t)), vT (.int (w.n : Int)), x13, none]
theorem told_comp35 {rows : List Rw} (hl : rows.length ≤ 4) {o : List Nat} (ho : o ∈ ordersP rows.length) {s : S} {i j k : Nat} (hi : vItems (vVar i) s = rM (o.map fun x : Nat => T.int (x : Int)) s.m) (hk : s.ρ[k]? = some (some (.val (rowsL rows)))) (ne : j ≠ k) (hj : j < s.ρ.length) :
    vComp [j] (vItems (vVar i)) (vgName j) vYes (vBin gIx (vVar k) (vVar j)) s = rM ((permR rows o).map lawT) s.m := by
  have hz : SZ = 1000000 := rfl
  obtain ⟨h1, h2, h3⟩ := orders_mem hl ho
  have c := comp_map (vs := [j]) (it := vItems (vVar i)) (g := vgName j) (te := vBin gIx (vVar k) (vVar j)) (s := s) (m := s.m) (xs := o) (t := fun x : Nat => T.int (x : Int)) (u := fun x => lawT (rows.getD x .lend)) hi (fun x hx => ⟨(s.ρ.set j none).set j (some (.val (.int (x : Int)))), rfl, by
    have e1 := set_set_ne (a := none) (b := some (.val (.int (x : Int)))) hk ne
    have e2 := set_set_eq (a := none) (b := some (.val (.int (x : Int)))) hj
    refine se_bin (se_var e1) (se_var e2) (ix_lst ?_)
    rw [List.getElem?_map, List.getD_eq_getElem?_getD, List.getElem?_eq_getElem (h2 x hx)]
    rfl⟩) (by omega)
  rw [c]
  unfold permR
  rw [List.map_map]
  rfl
section
variable {w : W35} {m : List MO} {x3 : Option Sl}
theorem turnA (h : w.Ok) {o : List Nat} (ho : o ∈ ordersP w.n) : bA ⟨w.sl x3 (vT (orderT o)) none none none none none none, m⟩ = some (.nx, ⟨w.sl x3 (vT (orderT o)) none none none none none none, m⟩) := by
  have hz : SZ = 1000000 := rfl
  have l4 : w.n ≤ 4 := h.lot.len
  have l4w : w.rows.length ≤ 4 := l4
  let R := permR w.rows o
  have p := permR_perm l4 ho
  have dR : ∀ r ∈ R, r.Drawn := fun r hr => h.lot.drawn r (p.mem_iff.mp hr)
  have lR : R.length ≤ 900 := by have : R.length = w.n := p.length_eq; omega
  let s0 : S := ⟨w.sl x3 (vT (orderT o)) none none none none none none, m⟩
  let s1 : S := ⟨w.sl x3 (vT (orderT o)) none none none none none (vT (stackT R)), m⟩
  have c6 : (vComp [6] (vItems (vVar 5)) (vgName 6) vYes (vBin gIx (vVar 4) (vVar 6))) s0 = rM (R.map lawT) m := told_comp35 l4 ho rfl rfl (by decide) (by show 6 < 15; decide)
  have tx : (vCall (f_text c0) (vCons (vVal (vComp [6] (vItems (vVar 5)) (vgName 6) vYes (vBin gIx (vVar 4) (vVar 6)))) vNil)) s0 = rM (.val (.str (txt R))) m := se_call (sa_cons (se_val c6) sa_nil) (text35 dR lR)
  have e1 : (vSet 13 (vCMeth c0.Stack (f_Stack_read c0) (vCons (vCall (f_text c0) (vCons (vVal (vComp [6] (vItems (vVar 5)) (vgName 6) vYes (vBin gIx (vVar 4) (vVar 6)))) vNil)) vNil))) s0 = some (.nx, s1) := st_set (sread35 dR lR tx)
  have q1 : (vTest (vBin (gEqO (okq_Stack c0) (f_Stack_eq c0) not) (vCall (f_stack_of c0) (vCons (vVar 11) (vCons (vVar 5) vNil))) (vVar 13))) s1 = rM false m := sc_test (se_bin (se_call (sa_cons rfl (sa_cons rfl sa_nil)) (stack_of_call l4 false ho)) rfl (stack_ne_self dR lR))
  have q2 : (vTest (vBin (gEqO (okq_Stack c0) (f_Stack_eq c0) not) (vCall (f_stack_of c0) (vCons (vB gTupOf (vCons (vVar 11) vNil)) (vCons (vVar 5) vNil))) (vVar 13))) s1 = rM false m := sc_test (se_bin (se_call (sa_cons (se_b (sa_cons rfl sa_nil) (tup_of (by rw [List.length_map]; omega))) (sa_cons rfl sa_nil)) (stack_of_call l4 true ho)) rfl (stack_ne_self dR lR))
  exact (body_same1 (s1 := s1) (st_seq e1 (st_ifn (m := m) (sc_or q1 q2) rfl)) rfl).trans rfl
theorem turnV (h : w.Ok) {x5 x6 x7 x8 : Option Sl} {v : T} (ck : callM (f_check_order c0) [.val v, .val (.int (w.n : Int))] [] = some (.ex c0.InvalidOrder [], [])) : bV ⟨w.sl x3 x5 x6 x7 x8 none (vT (v)) none, m⟩ = some (.nx, ⟨w.sl x3 x5 x6 x7 x8 none none none, m⟩) := by
  have hc := heard_odd (rows := w.rows) h.lot.len ck (m := m)
  have t3 : (vTest (vBin dNe (vCall (f_heard c0) (vCons (vVar 11) (vCons (vVar 10) vNil))) (vC (.str "order")))) ⟨w.sl x3 x5 x6 x7 x8 none (vT (v)) none, m⟩ = rM false m := tNe (b := .val (.str "order")) (d := .str "order") (se_call (sa_cons rfl (sa_cons rfl sa_nil)) hc) rfl rfl rfl (by kernel_rfl)
  exact (body_same1 (st_ifn (m := m) t3 rfl) rfl).trans rfl
theorem turnD {d : De} (hd : d.Ok) {x5 x6 x7 k9 : Option Sl} {x : T} : ∃ (y : T) (d' : De), d'.Ok ∧ (y = .tup [x] ∨ y = .lst [x]) ∧ bD ⟨w.sl x3 x5 x6 x7 (vT (x)) k9 none none, lM d⟩ = some (.nx, ⟨w.sl x3 x5 x6 x7 (vT (y)) none none none, lM d'⟩) := by
  obtain ⟨h1, _, _⟩ := draw_ok (n := 3) hd (by decide)
  have dc := call_l (vals := [.val (.int 3)]) rfl rfl (draw_eq (n := 3) hd (by decide))
  generalize drawP 3 d = r at h1 dc
  obtain ⟨i, d'⟩ := r
  simp only at h1 dc
  let s0 : S := ⟨w.sl x3 x5 x6 x7 (vT (x)) k9 none none, lM d⟩
  have t : (vTest (vBin dGt (vCall (f_draw c0) (vCons (vVar 2) (vCons (vC (.int 3)) vNil))) (vC (.int 0)))) s0 = rM (decide (i > 0)) (lM d') := sc_test ((se_bin (se_call (sa_cons rfl (sa_cons rfl sa_nil)) dc) se_c rfl).trans rfl)
  cases q : decide (i > 0) with
  | true =>
    rw [q] at t
    let s1 : S := ⟨w.sl x3 x5 x6 x7 (vT (.tup [x])) k9 none none, lM d'⟩
    have e : (vSet 8 (vIfE (vTest (vBin dGt (vCall (f_draw c0) (vCons (vVar 2) (vCons (vC (.int 3)) vNil))) (vC (.int 0)))) (vTup (vCons (vVar 8) vNil)) (vVal (vLst (vCons (vVar 8) vNil))))) s0 = some (.nx, s1) := st_set (se_if (m := lM d') t rfl)
    exact ⟨.tup [x], d', h1, .inl rfl, (body_same1 e rfl).trans rfl⟩
  | false =>
    rw [q] at t
    let s1 : S := ⟨w.sl x3 x5 x6 x7 (vT (.lst [x])) k9 none none, lM d'⟩
    have e : (vSet 8 (vIfE (vTest (vBin dGt (vCall (f_draw c0) (vCons (vVar 2) (vCons (vC (.int 3)) vNil))) (vC (.int 0)))) (vTup (vCons (vVar 8) vNil)) (vVal (vLst (vCons (vVar 8) vNil))))) s0 = some (.nx, s1) := st_set (se_ifn (m := lM d') t rfl)
    exact ⟨.lst [x], d', h1, .inr rfl, (body_same1 e rfl).trans rfl⟩
theorem loopD {d : De} (hd : d.Ok) {x5 x6 x7 : Option Sl} {x : T} : ∃ (y : T) (d' : De), d'.Ok ∧ Nest2 y ∧ (vPre [9] (vFor (vRange (vC (.int 8))) (vgName 9) (vBody [9] (vSet 8 (vIfE (vTest (vBin dGt (vCall (f_draw c0) (vCons (vVar 2) (vCons (vC (.int 3)) vNil))) (vC (.int 0)))) (vTup (vCons (vVar 8) vNil)) (vVal (vLst (vCons (vVar 8) vNil)))))))) ⟨w.sl x3 x5 x6 x7 (vT (x)) none none none, lM d⟩ = some (.nx, ⟨w.sl x3 x5 x6 x7 (vT (y)) none none none, lM d'⟩) := by
  obtain ⟨y1, d1, k1, n1, e1⟩ := turnD (w := w) (x3 := x3) (x5 := x5) (x6 := x6) (x7 := x7) (k9 := vT (.int 0)) (x := x) hd
  obtain ⟨y2, d2, k2, n2, e2⟩ := turnD (w := w) (x3 := x3) (x5 := x5) (x6 := x6) (x7 := x7) (k9 := vT (.int 1)) (x := y1) k1
  have N1 : Nest1 y1 := ⟨x, n1⟩
  have N2 : Nest2 y2 := ⟨y1, N1, n2⟩
  obtain ⟨⟨y, d'⟩, ⟨i1, i2⟩, L⟩ := loop_rel35 (St := fun a : T × De => ⟨w.sl x3 x5 x6 x7 (vT a.1) none none none, lM a.2⟩) (g := vgName 9) (b := bD) (fun a => a.2.Ok ∧ Nest2 a.1) [.int 2, .int 3, .int 4, .int 5, .int 6, .int 7] (fun a ha t _ => by
    obtain ⟨z, d3, k3, n3, e3⟩ := turnD (w := w) (x3 := x3) (x5 := x5) (x6 := x6) (x7 := x7) (k9 := vT t) (x := a.1) ha.1
    obtain ⟨v, hv, hv2⟩ := ha.2
    exact ⟨_, (z, d3), rfl, .inl e3, k3, ⟨a.1, ⟨v, hv2⟩, n3⟩⟩) (y2, d2) ⟨k2, N2⟩
  refine ⟨y, d', i1, i2, ?_⟩
  show vFor _ _ _ ⟨w.sl x3 x5 x6 x7 (vT (x)) none none none, lM d⟩ = _
  exact st_for (us := [.int 0, .int 1, .int 2, .int 3, .int 4, .int 5, .int 6, .int 7]) rfl (st_loop rfl e1 (st_loop rfl e2 L))
end
section
variable {w : W35} {m : List MO} {q : List Nat} {a : Nat}
theorem nT_len (o : List Nat) : (nT o).length = o.length := List.length_map _
theorem cut35 {s : S} (l4 : q.length ≤ 4) (h5 : s.ρ[5]? = some (vT (orderT q))) (h6 : s.ρ[6]? = some (vT (.int (a : Int)))) {f : VE} {x : T} (hf : f s = rM (.val x) s.m) : vBin gAdd (vBin gAdd (vSliceV (vVar 5) vNoPart (vPart (vVar 6))) (vTup (vCons f vNil))) (vSliceV (vVar 5) (vPart (vBin gAdd (vVar 6) (vC (.int 1)))) vNoPart) s = rM (.val (cutA q a x)) s.m := by
  have hz : SZ = 1000000 := rfl
  have lq := nT_len q
  have v5 : vVar 5 s = rM (.val (.tup (nT q))) s.m := se_var h5
  have v6 : vVar 6 s = rM (.val (.int (a : Int))) s.m := se_var h6
  have a1 := slV_take35 v5 v6
  have v7 : vBin gAdd (vVar 6) (vC (.int 1)) s = rM (.val (.int ((a + 1 : Nat) : Int))) s.m := se_bin v6 se_c rfl
  have a2 := slV_drop35 v5 v7
  have tp : vTup (vCons f vNil) s = rM (.val (.tup [x])) s.m := se_tup (ts := [x]) (sa_cons hf sa_nil) rfl (by show 1 ≤ SZ; omega)
  have b1 : vBin gAdd (vSliceV (vVar 5) vNoPart (vPart (vVar 6))) (vTup (vCons f vNil)) s = rM (.val (.tup ((nT q).take a ++ [x]))) s.m := se_bin a1 tp (add_tup35 (by rw [List.length_take]; show _ + 1 ≤ SZ; omega))
  exact se_bin b1 a2 (add_tup35 (by rw [List.length_append, List.length_take, List.length_drop]; show _ + 1 + _ ≤ SZ; omega))
end
theorem str35 : ∀ i : Nat, i < 4 → ∀ m : List MO, gStrF [.val (.int (i : Int))] m = rM (.val (.str (strI i))) m
  | 0, _, _ => rfl
  | 1, _, _ => rfl
  | 2, _, _ => rfl
  | 3, _, _ => rfl
  | i + 4, h, _ => absurd h (by omega)
theorem odd_all {w : W35} (h : w.Ok) {m : List MO} {x3 : Option Sl} {q : List Nat} (hq : q ∈ ordersP w.n) {a : Nat} (ha : a < w.n) {r : Fl × S} {k : VS}
    (hk : k ⟨w.sl x3 (vT (orderT q)) (vT (.int (a : Int))) (vT (.lst (oddV w.n q a))) none none none none, m⟩ = some r) : (vSeq (vSet 7 (vVal (vLst (vCons (vVal (vBN gListOf (vCons (vVar 5) vNil))) (vCons (vSliceV (vVar 5) (vPart (vC (.int 1))) vNoPart) (vCons (vBin gAdd (vVar 5) (vTup (vCons (vVar 12) vNil))) (vCons (vBin gAdd (vBin gAdd (vSliceV (vVar 5) vNoPart (vPart (vVar 6))) (vTup (vCons (vVar 12) vNil))) (vSliceV (vVar 5) (vPart (vBin gAdd (vVar 6) (vC (.int 1)))) vNoPart)) (vCons (vC .non) (vCons (vC (.str "0")) (vCons (vTup vNil) vNil)))))))))) (vSeq (vSet 7 (vVal (vBinN gCat (vVar 7) (vVal (vLst (vCons (vBin gAdd (vBin gAdd (vSliceV (vVar 5) vNoPart (vPart (vVar 6))) (vTup (vCons (vBin dSub (vC (.int 0)) (vC (.int 1))) vNil))) (vSliceV (vVar 5) (vPart (vBin gAdd (vVar 6) (vC (.int 1)))) vNoPart)) (vCons (vBin gAdd (vBin gAdd (vSliceV (vVar 5) vNoPart (vPart (vVar 6))) (vTup (vCons (vC .non) vNil))) (vSliceV (vVar 5) (vPart (vBin gAdd (vVar 6) (vC (.int 1)))) vNoPart)) (vCons (vTup (vCons (vVar 5) vNil)) vNil)))))))) (vSeq (vSet 7 (vVal (vBinN gCat (vVar 7) (vVal (vLst (vCons (vBin gAdd (vBin gAdd (vSliceV (vVar 5) vNoPart (vPart (vVar 6))) (vTup (vCons (vB gStrF (vCons (vBin gIx (vVar 5) (vVar 6)) vNil)) vNil))) (vSliceV (vVar 5) (vPart (vBin gAdd (vVar 6) (vC (.int 1)))) vNoPart)) (vCons (vBin gAdd (vVar 5) (vSliceV (vVar 5) vNoPart (vPart (vC (.int 1))))) (vCons (vC (.bl true)) (vCons (vC (.int 0)) vNil))))))))) (vSeq (vSet 7 (vVal (vBinN gCat (vVar 7) (vVal (vLst (vCons (vB gTupOf (vCons (vVal (vComp [14] (vItems (vVar 5)) (vgName 14) vYes (vBin dEq (vVar 14) (vC (.int 1))))) vNil)) (vCons (vBin gAdd (vBin gAdd (vSliceV (vVar 5) vNoPart (vPart (vVar 6))) (vTup (vCons (vTup (vCons (vBin gIx (vVar 5) (vVar 6)) vNil)) vNil))) (vSliceV (vVar 5) (vPart (vBin gAdd (vVar 6) (vC (.int 1)))) vNoPart)) vNil))))))) k)))) ⟨w.sl x3 (vT (orderT q)) (vT (.int (a : Int))) none none none none none, m⟩ = some r := by
  have hz : SZ = 1000000 := rfl
  have l4 : w.n ≤ 4 := h.lot.len
  obtain ⟨o1, o2, o3⟩ := orders_mem l4 hq
  have o1' : q.length = w.n := o1
  have lq := nT_len q
  let s0 : S := ⟨w.sl x3 (vT (orderT q)) (vT (.int (a : Int))) none none none none none, m⟩
  let s1 : S := ⟨w.sl x3 (vT (orderT q)) (vT (.int (a : Int))) (vT (.lst (odd1 w.n q a))) none none none none, m⟩
  let s2 : S := ⟨w.sl x3 (vT (orderT q)) (vT (.int (a : Int))) (vT (.lst (odd1 w.n q a ++ odd2 q a))) none none none none, m⟩
  let s3 : S := ⟨w.sl x3 (vT (orderT q)) (vT (.int (a : Int))) (vT (.lst (odd1 w.n q a ++ odd2 q a ++ odd3 q a))) none none none none, m⟩
  have C : ∀ (x7 : Option Sl) {f : VE} {x : T}, f ⟨w.sl x3 (vT (orderT q)) (vT (.int (a : Int))) x7 none none none none, m⟩ = rM (.val x) m → vBin gAdd (vBin gAdd (vSliceV (vVar 5) vNoPart (vPart (vVar 6))) (vTup (vCons f vNil))) (vSliceV (vVar 5) (vPart (vBin gAdd (vVar 6) (vC (.int 1)))) vNoPart) ⟨w.sl x3 (vT (orderT q)) (vT (.int (a : Int))) x7 none none none none, m⟩ = rM (.val (cutA q a x)) m := fun x7 f x hf => cut35 (s := ⟨w.sl x3 (vT (orderT q)) (vT (.int (a : Int))) x7 none none none none, m⟩) (by omega) rfl rfl hf
  have ix : ∀ (x7 : Option Sl), vBin gIx (vVar 5) (vVar 6) ⟨w.sl x3 (vT (orderT q)) (vT (.int (a : Int))) x7 none none none none, m⟩ = rM (.val (.int ((q.getD a 0 : Nat) : Int))) m := fun x7 => se_bin rfl rfl (ix_tup (by
    rw [List.getElem?_map, List.getD_eq_getElem?_getD, List.getElem?_eq_getElem (by omega)]
    rfl))
  have g4 : q.getD a 0 < 4 := by
    rw [List.getD_eq_getElem?_getD, List.getElem?_eq_getElem (by omega)]
    have := o2 _ (List.getElem_mem (show a < q.length by omega))
    show q[a] < 4
    omega
  have ls : (vVal (vBN gListOf (vCons (vVar 5) vNil))) s0 = rM (.val (.lst (nT q))) m := by
    refine se_val ?_
    show (if (nT q).length ≤ SZ then rM (nT q) m else none) = _
    rw [if_pos (by omega)]
  have d1 : vSliceV (vVar 5) (vPart (vC (.int 1))) vNoPart s0 = rM (.val (.tup ((nT q).drop 1))) m := slV_drop35 (n := 1) (s := s0) (ts := nT q) rfl rfl
  have t12 : ∀ x7 : Option Sl, vTup (vCons (vVar 12) vNil) ⟨w.sl x3 (vT (orderT q)) (vT (.int (a : Int))) x7 none none none none, m⟩ = rM (.val (.tup [.int (w.n : Int)])) m := fun x7 => se_tup (ts := [.int (w.n : Int)]) (sa_cons rfl sa_nil) rfl (by show 1 ≤ SZ; omega)
  have a3 : vBin gAdd (vVar 5) (vTup (vCons (vVar 12) vNil)) s0 = rM (.val (.tup (nT q ++ [.int (w.n : Int)]))) m := se_bin (a := .val (.tup (nT q))) (m1 := m) rfl (t12 none) (add_tup35 (by show (nT q).length + 1 ≤ SZ; omega))
  have e1 : (vSet 7 (vVal (vLst (vCons (vVal (vBN gListOf (vCons (vVar 5) vNil))) (vCons (vSliceV (vVar 5) (vPart (vC (.int 1))) vNoPart) (vCons (vBin gAdd (vVar 5) (vTup (vCons (vVar 12) vNil))) (vCons (vBin gAdd (vBin gAdd (vSliceV (vVar 5) vNoPart (vPart (vVar 6))) (vTup (vCons (vVar 12) vNil))) (vSliceV (vVar 5) (vPart (vBin gAdd (vVar 6) (vC (.int 1)))) vNoPart)) (vCons (vC .non) (vCons (vC (.str "0")) (vCons (vTup vNil) vNil)))))))))) s0 = some (.nx, s1) := st_set (se_val (sn_lst (ts := odd1 w.n q a) (sa_cons ls (sa_cons d1 (sa_cons a3 (sa_cons (C none rfl) (sa_cons rfl (sa_cons rfl (sa_cons rfl sa_nil))))))) (by show 7 ≤ SZ; omega)))
  have l2 : (vLst (vCons (vBin gAdd (vBin gAdd (vSliceV (vVar 5) vNoPart (vPart (vVar 6))) (vTup (vCons (vBin dSub (vC (.int 0)) (vC (.int 1))) vNil))) (vSliceV (vVar 5) (vPart (vBin gAdd (vVar 6) (vC (.int 1)))) vNoPart)) (vCons (vBin gAdd (vBin gAdd (vSliceV (vVar 5) vNoPart (vPart (vVar 6))) (vTup (vCons (vC .non) vNil))) (vSliceV (vVar 5) (vPart (vBin gAdd (vVar 6) (vC (.int 1)))) vNoPart)) (vCons (vTup (vCons (vVar 5) vNil)) vNil)))) s1 = rM (odd2 q a) m := sn_lst (ts := odd2 q a) (sa_cons (C _ rfl) (sa_cons (C _ rfl) (sa_cons (se_tup (ts := [.tup (nT q)]) (sa_cons rfl sa_nil) rfl (by show 1 ≤ SZ; omega)) sa_nil))) (by show 3 ≤ SZ; omega)
  have e2 : (vSet 7 (vVal (vBinN gCat (vVar 7) (vVal (vLst (vCons (vBin gAdd (vBin gAdd (vSliceV (vVar 5) vNoPart (vPart (vVar 6))) (vTup (vCons (vBin dSub (vC (.int 0)) (vC (.int 1))) vNil))) (vSliceV (vVar 5) (vPart (vBin gAdd (vVar 6) (vC (.int 1)))) vNoPart)) (vCons (vBin gAdd (vBin gAdd (vSliceV (vVar 5) vNoPart (vPart (vVar 6))) (vTup (vCons (vC .non) vNil))) (vSliceV (vVar 5) (vPart (vBin gAdd (vVar 6) (vC (.int 1)))) vNoPart)) (vCons (vTup (vCons (vVar 5) vNil)) vNil)))))))) s1 = some (.nx, s2) := st_set (se_val (se_binN (a := .val (.lst (odd1 w.n q a))) (b := .val (.lst (odd2 q a))) rfl (se_val l2) (cat_of (by show 7 + 3 ≤ SZ; omega))))
  have tk : vSliceV (vVar 5) vNoPart (vPart (vC (.int 1))) s2 = rM (.val (.tup ((nT q).take 1))) m := slV_take35 (n := 1) (s := s2) (ts := nT q) rfl rfl
  have a4 : (vBin gAdd (vVar 5) (vSliceV (vVar 5) vNoPart (vPart (vC (.int 1))))) s2 = rM (.val (.tup (nT q ++ (nT q).take 1))) m := se_bin (a := .val (.tup (nT q))) (m1 := m) rfl tk (add_tup35 (by rw [List.length_take]; omega))
  have l3 : (vLst (vCons (vBin gAdd (vBin gAdd (vSliceV (vVar 5) vNoPart (vPart (vVar 6))) (vTup (vCons (vB gStrF (vCons (vBin gIx (vVar 5) (vVar 6)) vNil)) vNil))) (vSliceV (vVar 5) (vPart (vBin gAdd (vVar 6) (vC (.int 1)))) vNoPart)) (vCons (vBin gAdd (vVar 5) (vSliceV (vVar 5) vNoPart (vPart (vC (.int 1))))) (vCons (vC (.bl true)) (vCons (vC (.int 0)) vNil))))) s2 = rM (odd3 q a) m := sn_lst (ts := odd3 q a) (sa_cons (C _ (se_b (sa_cons (ix _) sa_nil) (str35 _ g4 _))) (sa_cons a4 (sa_cons rfl (sa_cons rfl sa_nil)))) (by show 4 ≤ SZ; omega)
  have e3 : (vSet 7 (vVal (vBinN gCat (vVar 7) (vVal (vLst (vCons (vBin gAdd (vBin gAdd (vSliceV (vVar 5) vNoPart (vPart (vVar 6))) (vTup (vCons (vB gStrF (vCons (vBin gIx (vVar 5) (vVar 6)) vNil)) vNil))) (vSliceV (vVar 5) (vPart (vBin gAdd (vVar 6) (vC (.int 1)))) vNoPart)) (vCons (vBin gAdd (vVar 5) (vSliceV (vVar 5) vNoPart (vPart (vC (.int 1))))) (vCons (vC (.bl true)) (vCons (vC (.int 0)) vNil))))))))) s2 = some (.nx, s3) := st_set (se_val (se_binN (a := .val (.lst (odd1 w.n q a ++ odd2 q a))) rfl (se_val l3) (cat_of (by show 10 + 4 ≤ SZ; omega))))
  have c14 : (vComp [14] (vItems (vVar 5)) (vgName 14) vYes (vBin dEq (vVar 14) (vC (.int 1)))) s3 = rM (q.map fun i : Nat => T.bl (decide ((i : Int) = 1))) m := comp_map (xs := q) (t := fun i : Nat => T.int (i : Int)) (u := fun i : Nat => T.bl (decide ((i : Int) = 1))) rfl (fun i hi => ⟨s3.ρ.set 14 (vT (.int (i : Int))), rfl, (se_bin rfl se_c int_eq).trans rfl⟩) (by omega)
  have l4' : (vLst (vCons (vB gTupOf (vCons (vVal (vComp [14] (vItems (vVar 5)) (vgName 14) vYes (vBin dEq (vVar 14) (vC (.int 1))))) vNil)) (vCons (vBin gAdd (vBin gAdd (vSliceV (vVar 5) vNoPart (vPart (vVar 6))) (vTup (vCons (vTup (vCons (vBin gIx (vVar 5) (vVar 6)) vNil)) vNil))) (vSliceV (vVar 5) (vPart (vBin gAdd (vVar 6) (vC (.int 1)))) vNoPart)) vNil))) s3 = rM (odd4 q a) m := sn_lst (ts := odd4 q a) (sa_cons (se_b (sa_cons (se_val c14) sa_nil) (tup_of (by rw [List.length_map]; omega))) (sa_cons (C _ (se_tup (ts := [.int ((q.getD a 0 : Nat) : Int)]) (sa_cons (ix _) sa_nil) rfl (by show 1 ≤ SZ; omega))) sa_nil)) (by show 2 ≤ SZ; omega)
  have e4 : (vSet 7 (vVal (vBinN gCat (vVar 7) (vVal (vLst (vCons (vB gTupOf (vCons (vVal (vComp [14] (vItems (vVar 5)) (vgName 14) vYes (vBin dEq (vVar 14) (vC (.int 1))))) vNil)) (vCons (vBin gAdd (vBin gAdd (vSliceV (vVar 5) vNoPart (vPart (vVar 6))) (vTup (vCons (vTup (vCons (vBin gIx (vVar 5) (vVar 6)) vNil)) vNil))) (vSliceV (vVar 5) (vPart (vBin gAdd (vVar 6) (vC (.int 1)))) vNoPart)) vNil))))))) s3 = some (.nx, (⟨w.sl x3 (vT (orderT q)) (vT (.int (a : Int))) (vT (.lst (oddV w.n q a))) none none none none, m⟩ : S)) := st_set (se_val (se_binN (a := .val (.lst (odd1 w.n q a ++ odd2 q a ++ odd3 q a))) rfl (se_val l4') (cat_of (by show 14 + 2 ≤ SZ; omega))))
  exact st_seq e1 (st_seq e2 (st_seq e3 (st_seq e4 hk)))

def st35 (t : T) (b : Nat) (x1 x2 : Option Sl) (x5 : Option Sl) (m : List MO) : S := ⟨[vT t, x1, x2, none, none, x5, none, none, none, none, none, none, none, none, none], m⟩
theorem turnT {t : T} {b : Nat} {k : T} {x5 : Option Sl} {d : De} (hd : d.Ok) : ∃ (y : T) (d' : De), d'.Ok ∧ bT ⟨[vT t, vT (.int (b : Int)), some (.own 1), vT k, none, x5, none, none, none, none, none, none, none, none, none], lM d⟩ = some (.nx, st35 t b (vT (.int (b : Int))) (some (.own 1)) (vT y) (lM d')) := by
  have hz : SZ = 1000000 := rfl
  obtain ⟨h1, g0, g4⟩ := draw_ok (n := 4) hd (by decide)
  have dc := call_l (vals := [.val (.int 4)]) rfl rfl (draw_eq (n := 4) hd (by decide))
  generalize drawP 4 d = r at h1 g0 g4 dc
  obtain ⟨i, d1⟩ := r
  simp only at h1 g0 g4 dc
  obtain ⟨N, hN⟩ : ∃ N : Nat, 1 + i = (N : Int) := ⟨(1 + i).toNat, by omega⟩
  have N1 : 1 ≤ N := by omega
  have N4 : N ≤ 4 := by omega
  have lc := call_l (vals := [.val (.int (N : Int))]) rfl rfl (lot_eq (n := N) h1)
  obtain ⟨lo, h2⟩ := lot_ok (n := N) N4 h1
  have ll := lot_len1 (n := N) N1 N4 h1
  generalize lotP N d1 = r2 at lc lo h2 ll
  obtain ⟨rows, d2⟩ := r2
  simp only at lc lo h2 ll
  let w : W35 := ⟨t, b, rows⟩
  have hw : w.Ok := ⟨lo, ll⟩
  have l4 : w.n ≤ 4 := lo.len
  have l4w : rows.length ≤ 4 := lo.len
  have n0 : 1 ≤ w.n := ll
  let x3 : Option Sl := vT k
  let z0 : S := ⟨[vT t, vT (.int (b : Int)), some (.own 1), vT k, none, x5, none, none, none, none, none, none, none, none, none], lM d⟩
  let z1 : S := ⟨[vT t, vT (.int (b : Int)), some (.own 1), vT k, vT (rowsL rows), x5, none, none, none, none, none, none, none, none, none], lM d2⟩
  let z2 : S := ⟨w.sl (vT k) x5 none none none none none none, lM d2⟩
  have e0 : (vSet 4 (vCall (f_lot_rows c0) (vCons (vVar 2) (vCons (vBin gAdd (vC (.int 1)) (vCall (f_draw c0) (vCons (vVar 2) (vCons (vC (.int 4)) vNil)))) vNil)))) z0 = some (.nx, z1) := by
    have ad : vBin gAdd (vC (.int 1)) (vCall (f_draw c0) (vCons (vVar 2) (vCons (vC (.int 4)) vNil))) z0 = rM (.val (.int (N : Int))) (lM d1) := by
      have q : vBin gAdd (vC (.int 1)) (vCall (f_draw c0) (vCons (vVar 2) (vCons (vC (.int 4)) vNil))) z0 = rM (.val (.int (1 + i))) (lM d1) := se_bin (a := .val (.int 1)) (m1 := lM d) rfl (se_call (sa_cons rfl (sa_cons rfl sa_nil)) dc) rfl
      rw [q, hN]
    exact st_set (se_call (sa_cons rfl (sa_cons ad sa_nil)) lc)
  have mc : callM (f_made_rows c0) [.val (rowsL rows)] (lM d2) = rM (.val (.lst (rows.map Rw.t))) (lM d2) := made_call lo.drawn (by omega)
  have ln : vB gLen (vCons (vVar 4) vNil) z1 = rM (.val (.int (w.n : Int))) (lM d2) := by
    refine se_b (sa_cons rfl sa_nil) ?_
    show rM (Sl.val (.int ((rows.map lawT).length : Int))) _ = _
    rw [List.length_map]
  have e1 : (vPar 11 12 (vCons (vCall (f_made_rows c0) (vCons (vVar 4) vNil)) (vCons (vB gLen (vCons (vVar 4) vNil)) vNil))) z1 = some (.nx, z2) := (st_par (sa_cons (se_call (sa_cons rfl sa_nil) mc) (sa_cons ln sa_nil))).trans rfl
  -- all orders
  have oo : vItems (vCall (f_orders c0) (vCons (vVar 12) vNil)) z2 = rM ((ordersP w.n).map orderT) (lM d2) := si_items (se_call (sa_cons rfl sa_nil) (law_orders_call l4)) rfl
  obtain ⟨y5, _, L⟩ := loop_rel35 (St := fun x : Option Sl => ⟨w.sl (vT k) x none none none none none none, lM d2⟩) (g := vgName 5) (b := bA) (fun _ => True) ((ordersP w.n).map orderT) (fun x _ t ht => by
    obtain ⟨o, ho, rfl⟩ := List.mem_map.mp ht
    exact ⟨_, vT (orderT o), rfl, .inl (turnA hw ho), trivial⟩) x5 trivial
  let z3 : S := ⟨w.sl (vT k) y5 none none none none none none, lM d2⟩
  have e2 : (vPre [13] (vFor (vItems (vCall (f_orders c0) (vCons (vVar 12) vNil))) (vgName 5) (vBody [13] (vSeq (vSet 13 (vCMeth c0.Stack (f_Stack_read c0) (vCons (vCall (f_text c0) (vCons (vVal (vComp [6] (vItems (vVar 5)) (vgName 6) vYes (vBin gIx (vVar 4) (vVar 6)))) vNil)) vNil))) (vIf (vOr (vTest (vBin (gEqO (okq_Stack c0) (f_Stack_eq c0) not) (vCall (f_stack_of c0) (vCons (vVar 11) (vCons (vVar 5) vNil))) (vVar 13))) (vTest (vBin (gEqO (okq_Stack c0) (f_Stack_eq c0) not) (vCall (f_stack_of c0) (vCons (vB gTupOf (vCons (vVar 11) vNil)) (vCons (vVar 5) vNil))) (vVar 13)))) (vRet (vC (.bl false))) vNext))))) z2 = some (.nx, z3) := by
    show vFor _ _ _ z2 = _
    exact st_for oo L
  -- an order, a place
  obtain ⟨mo, mp⟩ := mixed_ok (xs := List.range w.n) h2
  have mq := mixed_eq (xs := List.range w.n) (enc := fun i : Nat => T.int (i : Int)) h2 (by rw [List.length_range]; omega)
  have mc2 := call_l (vals := [.val (.lst ((List.range w.n).map fun i : Nat => T.int (i : Int)))]) rfl rfl mq
  generalize mixedP (List.range w.n) d2 = r3 at mo mp mc2
  obtain ⟨q, d3⟩ := r3
  simp only at mo mp mc2
  have hq : q ∈ ordersP w.n := perm_orders35 l4 mp
  obtain ⟨o1, o2, o3⟩ := orders_mem l4 hq
  have o1' : q.length = w.n := o1
  let z4 : S := ⟨w.sl (vT k) (vT (orderT q)) none none none none none none, lM d3⟩
  have lr := listrg35 (f := vVar 12) (s := z3) (n := w.n) (m := lM d2) rfl (by omega)
  have mx : (vCall (f_mixed c0) (vCons (vVar 2) (vCons (vVal (vListRg (vVar 12))) vNil))) z3 = rM (.val (.lst (q.map fun i : Nat => T.int (i : Int)))) (lM d3) := se_call (sa_cons rfl (sa_cons (se_val lr) sa_nil)) mc2
  have e3 : (vSet 5 (vB gTupOf (vCons (vCall (f_mixed c0) (vCons (vVar 2) (vCons (vVal (vListRg (vVar 12))) vNil))) vNil))) z3 = some (.nx, z4) := st_set (se_b (sa_cons mx sa_nil) (tup_of (by rw [List.length_map]; omega)))
  obtain ⟨h4, a0, a1⟩ := draw_ok (n := (w.n : Int)) mo (by omega)
  have dc4 := call_l (vals := [.val (.int (w.n : Int))]) rfl rfl (draw_eq (n := (w.n : Int)) mo (by constructor <;> omega))
  generalize drawP (w.n : Int) d3 = r4 at h4 a0 a1 dc4
  obtain ⟨ai, d4⟩ := r4
  simp only at h4 a0 a1 dc4
  obtain ⟨a, ha⟩ : ∃ a : Nat, ai = (a : Int) := ⟨ai.toNat, by omega⟩
  subst ha
  have han : a < w.n := by omega
  let z5 : S := ⟨w.sl (vT k) (vT (orderT q)) (vT (.int (a : Int))) none none none none none, lM d4⟩
  have e4 : (vSet 6 (vCall (f_draw c0) (vCons (vVar 2) (vCons (vVar 12) vNil)))) z4 = some (.nx, z5) := st_set (se_call (sa_cons rfl (sa_cons rfl sa_nil)) dc4)
  -- the nested value
  let base : List T := [.int 0, .non, .str "0", .int ((q.getD 0 0 : Nat) : Int)]
  haveI : Inhabited T := ⟨T.non⟩
  have pq := pick_eq (xs := base) (enc := fun t : T => t) h4 (List.cons_ne_nil _ _) (by show (4 : Nat) < 1000000; decide)
  obtain ⟨_, h5⟩ := pick_ok (xs := base) h4 (List.cons_ne_nil _ _)
  have pc := call_l (vals := [.val (.lst (base.map fun t : T => t))]) rfl rfl pq
  generalize pickP base d4 = r5 at h5 pc
  obtain ⟨x0, d5⟩ := r5
  simp only at h5 pc
  let z9 : S := ⟨w.sl (vT k) (vT (orderT q)) (vT (.int (a : Int))) (vT (.lst (oddV w.n q a))) none none none none, lM d4⟩
  let z10 : S := ⟨w.sl (vT k) (vT (orderT q)) (vT (.int (a : Int))) (vT (.lst (oddV w.n q a))) (vT (x0)) none none none, lM d5⟩
  have i0 : vBin gIx (vVar 5) (vC (.int 0)) z9 = rM (.val (.int ((q.getD 0 0 : Nat) : Int))) (lM d4) := se_bin (a := .val (.tup (q.map fun i : Nat => T.int (i : Int)))) (b := .val (.int ((0 : Nat) : Int))) (m1 := lM d4) rfl rfl (ix_tup (by
    rw [List.getElem?_map, List.getD_eq_getElem?_getD, List.getElem?_eq_getElem (by omega)]
    rfl))
  have bl : (vLst (vCons (vC (.int 0)) (vCons (vC .non) (vCons (vC (.str "0")) (vCons (vBin gIx (vVar 5) (vC (.int 0))) vNil))))) z9 = rM base (lM d4) := sn_lst (ts := base) (sa_cons rfl (sa_cons rfl (sa_cons rfl (sa_cons i0 sa_nil)))) (by show 4 ≤ SZ; omega)
  have e9 : (vSet 8 (vCall (f_pick c0) (vCons (vVar 2) (vCons (vVal (vLst (vCons (vC (.int 0)) (vCons (vC .non) (vCons (vC (.str "0")) (vCons (vBin gIx (vVar 5) (vC (.int 0))) vNil)))))) vNil)))) z9 = some (.nx, z10) := st_set (se_call (sa_cons rfl (sa_cons (se_val (ts := base.map fun t : T => t) bl) sa_nil)) pc)
  obtain ⟨y, d6, h6, hy, e10⟩ := loopD (w := w) (x3 := vT k) (x5 := vT (orderT q)) (x6 := vT (.int (a : Int))) (x7 := vT (.lst (oddV w.n q a))) (x := x0) h5
  let z11 : S := ⟨w.sl (vT k) (vT (orderT q)) (vT (.int (a : Int))) (vT (.lst (oddV w.n q a))) (vT (y)) none none none, lM d6⟩
  have it : (vItems (vVal (vBinN gCat (vVar 7) (vVal (vLst (vCons (vVar 8) vNil)))))) z11 = rM (oddV w.n q a ++ [y]) (lM d6) := si_items (se_val (se_binN (a := .val (.lst (oddV w.n q a))) (b := .val (.lst [y])) (m1 := lM d6) rfl rfl (cat_of (by show 16 + 1 ≤ SZ; omega)))) rfl
  obtain ⟨_, _, L11⟩ := loop_rel35 (St := fun _ : Unit => z11) (g := vgName 10) (b := bV) (fun _ => True) (oddV w.n q a ++ [y]) (fun _ _ v hv => by
    refine ⟨_, (), rfl, .inl (turnV hw (v := v) ?_), trivial⟩
    rcases List.mem_append.mp hv with hv | hv
    · exact odd_ref l4 hq han hv
    · rw [List.mem_singleton.mp hv]; exact nest_ref hy) () trivial
  have e11 : (vPre [10] (vFor (vItems (vVal (vBinN gCat (vVar 7) (vVal (vLst (vCons (vVar 8) vNil)))))) (vgName 10) (vBody [10] (vIf (vTest (vBin dNe (vCall (f_heard c0) (vCons (vVar 11) (vCons (vVar 10) vNil))) (vC (.str "order")))) (vRet (vC (.bl false))) vNext)))) z11 = some (.nx, z11) := by
    show vFor _ _ _ z11 = _
    exact st_for it L11
  -- the text
  let R := permR rows q
  have p := permR_perm l4w hq
  have dR : ∀ r ∈ R, r.Drawn := fun r hr => lo.drawn r (p.mem_iff.mp hr)
  have lR : R.length ≤ 900 := by have : R.length = rows.length := p.length_eq; omega
  have hc : callM (f_heard c0) [.val (.lst (rows.map Rw.t)), .val (orderT q)] (lM d6) = rM (.val (.str (txt R))) (lM d6) := call_vals (heard_ok lo.drawn l4w hq) rfl rfl
  have c6 : (vComp [6] (vItems (vVar 5)) (vgName 6) vYes (vBin gIx (vVar 4) (vVar 6))) z11 = rM (R.map lawT) (lM d6) := told_comp35 l4w hq rfl rfl (by decide) (by show 6 < 15; decide)
  have tx : (vCall (f_text c0) (vCons (vVal (vComp [6] (vItems (vVar 5)) (vgName 6) vYes (vBin gIx (vVar 4) (vVar 6)))) vNil)) z11 = rM (.val (.str (txt R))) (lM d6) := se_call (sa_cons (se_val c6) sa_nil) (text35 dR lR)
  have t12 : (vTest (vBin dNe (vCall (f_heard c0) (vCons (vVar 11) (vCons (vVar 5) vNil))) (vCall (f_text c0) (vCons (vVal (vComp [6] (vItems (vVar 5)) (vgName 6) vYes (vBin gIx (vVar 4) (vVar 6)))) vNil)))) z11 = rM false (lM d6) := tNe (a := .val (.str (txt R))) (b := .val (.str (txt R))) (d := .str (txt R)) (se_call (sa_cons rfl (sa_cons rfl sa_nil)) hc) tx rfl rfl (shaped_str (txt_ok dR))
  have e12 : (vIf (vTest (vBin dNe (vCall (f_heard c0) (vCons (vVar 11) (vCons (vVar 5) vNil))) (vCall (f_text c0) (vCons (vVal (vComp [6] (vItems (vVar 5)) (vgName 6) vYes (vBin gIx (vVar 4) (vVar 6)))) vNil)))) (vRet (vC (.bl false))) vNext) z11 = some (.nx, z11) := st_ifn (m := lM d6) t12 rfl
  have run := st_seq e0 (st_seq e1 (st_seq e2 (st_seq e3 (st_seq e4 (odd_all (x3 := vT k) hw hq han (st_seq e9 (st_seq e10 (st_seq e11 e12))))))))
  exact ⟨orderT q, d6, h6, (body_same1 run rfl).trans rfl⟩
theorem lw_out_turn {ns : List Int} {b : Nat} (hl : ns.length ≤ 900) (hb : b ≤ 1000) {o : Option T} : ∃ y : T, lwOut ⟨[vT (.seq (ns.map T.int)), vT (.int (b : Int)), none, none, none, o.map Sl.val, none, none, none, none, none, none, none, none, none], []⟩ = some (.nx, st35 (.seq (ns.map T.int)) b none none (vT y) []) := by
  obtain ⟨d, ok, sc⟩ := source_call (ns := ns) (b := b) hl hb
  let t : T := .seq (ns.map T.int)
  let z0 : S := ⟨[vT t, vT (.int (b : Int)), none, none, none, o.map Sl.val, none, none, none, none, none, none, none, none, none], []⟩
  let z1 : S := ⟨[vT t, vT (.int (b : Int)), some (.own 1), none, none, o.map Sl.val, none, none, none, none, none, none, none, none, none], lM d⟩
  have e0 : (vSet 2 (vCall (f_source c0) (vCons (vVar 0) (vCons (vVar 1) vNil)))) z0 = some (.nx, z1) := st_set (se_call (sa_cons rfl (sa_cons rfl sa_nil)) sc)
  obtain ⟨y0, d0, k0, f0⟩ := turnT (t := t) (b := b) (k := .int 0) (x5 := o.map Sl.val) ok
  obtain ⟨⟨y, d'⟩, k1, L⟩ := loop_rel35 (St := fun a : T × De => st35 t b (vT (.int (b : Int))) (some (.own 1)) (vT a.1) (lM a.2)) (g := vgName 3) (b := bT) (fun a => a.2.Ok) [.int 1, .int 2, .int 3] (fun a ha u _ => by
    obtain ⟨y2, d2, k2, f2⟩ := turnT (t := t) (b := b) (k := u) (x5 := vT a.1) ha
    exact ⟨_, (y2, d2), rfl, .inl f2, k2⟩) (y0, d0) k0
  have e1 : (vPre [3, 4, 6, 7, 8, 9, 10, 11, 12, 13] (vFor (vRange (vC (.int 4))) (vgName 3) (vBody [3, 4, 6, 7, 8, 9, 10, 11, 12, 13] (vSeq (vSet 4 (vCall (f_lot_rows c0) (vCons (vVar 2) (vCons (vBin gAdd (vC (.int 1)) (vCall (f_draw c0) (vCons (vVar 2) (vCons (vC (.int 4)) vNil)))) vNil)))) (vSeq (vPar 11 12 (vCons (vCall (f_made_rows c0) (vCons (vVar 4) vNil)) (vCons (vB gLen (vCons (vVar 4) vNil)) vNil))) (vSeq (vPre [13] (vFor (vItems (vCall (f_orders c0) (vCons (vVar 12) vNil))) (vgName 5) (vBody [13] (vSeq (vSet 13 (vCMeth c0.Stack (f_Stack_read c0) (vCons (vCall (f_text c0) (vCons (vVal (vComp [6] (vItems (vVar 5)) (vgName 6) vYes (vBin gIx (vVar 4) (vVar 6)))) vNil)) vNil))) (vIf (vOr (vTest (vBin (gEqO (okq_Stack c0) (f_Stack_eq c0) not) (vCall (f_stack_of c0) (vCons (vVar 11) (vCons (vVar 5) vNil))) (vVar 13))) (vTest (vBin (gEqO (okq_Stack c0) (f_Stack_eq c0) not) (vCall (f_stack_of c0) (vCons (vB gTupOf (vCons (vVar 11) vNil)) (vCons (vVar 5) vNil))) (vVar 13)))) (vRet (vC (.bl false))) vNext))))) (vSeq (vSet 5 (vB gTupOf (vCons (vCall (f_mixed c0) (vCons (vVar 2) (vCons (vVal (vListRg (vVar 12))) vNil))) vNil))) (vSeq (vSet 6 (vCall (f_draw c0) (vCons (vVar 2) (vCons (vVar 12) vNil)))) (vSeq (vSet 7 (vVal (vLst (vCons (vVal (vBN gListOf (vCons (vVar 5) vNil))) (vCons (vSliceV (vVar 5) (vPart (vC (.int 1))) vNoPart) (vCons (vBin gAdd (vVar 5) (vTup (vCons (vVar 12) vNil))) (vCons (vBin gAdd (vBin gAdd (vSliceV (vVar 5) vNoPart (vPart (vVar 6))) (vTup (vCons (vVar 12) vNil))) (vSliceV (vVar 5) (vPart (vBin gAdd (vVar 6) (vC (.int 1)))) vNoPart)) (vCons (vC .non) (vCons (vC (.str "0")) (vCons (vTup vNil) vNil)))))))))) (vSeq (vSet 7 (vVal (vBinN gCat (vVar 7) (vVal (vLst (vCons (vBin gAdd (vBin gAdd (vSliceV (vVar 5) vNoPart (vPart (vVar 6))) (vTup (vCons (vBin dSub (vC (.int 0)) (vC (.int 1))) vNil))) (vSliceV (vVar 5) (vPart (vBin gAdd (vVar 6) (vC (.int 1)))) vNoPart)) (vCons (vBin gAdd (vBin gAdd (vSliceV (vVar 5) vNoPart (vPart (vVar 6))) (vTup (vCons (vC .non) vNil))) (vSliceV (vVar 5) (vPart (vBin gAdd (vVar 6) (vC (.int 1)))) vNoPart)) (vCons (vTup (vCons (vVar 5) vNil)) vNil)))))))) (vSeq (vSet 7 (vVal (vBinN gCat (vVar 7) (vVal (vLst (vCons (vBin gAdd (vBin gAdd (vSliceV (vVar 5) vNoPart (vPart (vVar 6))) (vTup (vCons (vB gStrF (vCons (vBin gIx (vVar 5) (vVar 6)) vNil)) vNil))) (vSliceV (vVar 5) (vPart (vBin gAdd (vVar 6) (vC (.int 1)))) vNoPart)) (vCons (vBin gAdd (vVar 5) (vSliceV (vVar 5) vNoPart (vPart (vC (.int 1))))) (vCons (vC (.bl true)) (vCons (vC (.int 0)) vNil))))))))) (vSeq (vSet 7 (vVal (vBinN gCat (vVar 7) (vVal (vLst (vCons (vB gTupOf (vCons (vVal (vComp [14] (vItems (vVar 5)) (vgName 14) vYes (vBin dEq (vVar 14) (vC (.int 1))))) vNil)) (vCons (vBin gAdd (vBin gAdd (vSliceV (vVar 5) vNoPart (vPart (vVar 6))) (vTup (vCons (vTup (vCons (vBin gIx (vVar 5) (vVar 6)) vNil)) vNil))) (vSliceV (vVar 5) (vPart (vBin gAdd (vVar 6) (vC (.int 1)))) vNoPart)) vNil))))))) (vSeq (vSet 8 (vCall (f_pick c0) (vCons (vVar 2) (vCons (vVal (vLst (vCons (vC (.int 0)) (vCons (vC .non) (vCons (vC (.str "0")) (vCons (vBin gIx (vVar 5) (vC (.int 0))) vNil)))))) vNil)))) (vSeq (vPre [9] (vFor (vRange (vC (.int 8))) (vgName 9) (vBody [9] (vSet 8 (vIfE (vTest (vBin dGt (vCall (f_draw c0) (vCons (vVar 2) (vCons (vC (.int 3)) vNil))) (vC (.int 0)))) (vTup (vCons (vVar 8) vNil)) (vVal (vLst (vCons (vVar 8) vNil)))))))) (vSeq (vPre [10] (vFor (vItems (vVal (vBinN gCat (vVar 7) (vVal (vLst (vCons (vVar 8) vNil)))))) (vgName 10) (vBody [10] (vIf (vTest (vBin dNe (vCall (f_heard c0) (vCons (vVar 11) (vCons (vVar 10) vNil))) (vC (.str "order")))) (vRet (vC (.bl false))) vNext)))) (vIf (vTest (vBin dNe (vCall (f_heard c0) (vCons (vVar 11) (vCons (vVar 5) vNil))) (vCall (f_text c0) (vCons (vVal (vComp [6] (vItems (vVar 5)) (vgName 6) vYes (vBin gIx (vVar 4) (vVar 6)))) vNil)))) (vRet (vC (.bl false))) vNext)))))))))))))))) z1 = some (.nx, st35 t b (vT (.int (b : Int))) (some (.own 1)) (vT y) (lM d')) := by
    show vFor _ _ _ z1 = _
    exact st_for (us := [.int 0, .int 1, .int 2, .int 3]) rfl (st_loop rfl f0 L)
  exact ⟨y, (body_nx35 (st_seq e0 e1) rfl rfl).trans rfl⟩
theorem end35 {s : S} (hm : s.m = []) : (vAndV (vBin dEq (vB (gStrO (ok_Stack c0) (f_Stack_str c0)) (vCons (vCall (f_stack_of c0) (vCons (vVal (vLst vNil)) (vCons (vTup vNil) vNil))) vNil)) (vC (.str ""))) (vBin dEq (vCall (f_heard c0) (vCons (vVal (vLst vNil)) (vCons (vTup (vCons (vC (.int 0)) vNil)) vNil))) (vC (.str "order")))) s = rM (.val (.bl true)) [] := by
  obtain ⟨ρ, m⟩ := s
  simp only at hm
  subst hm
  kernel_rfl
theorem pure_law (ns : List Int) (hl : ns.length ≤ 63) : ∃ m', f_law c0 [.val (.seq (ns.map T.int))] [] = some (.ok (.val (.bl true)), m') := by
  let St : Option T → S := fun o => ⟨[vT (.seq (ns.map T.int)), none, none, none, none, o.map Sl.val, none, none, none, none, none, none, none, none, none], []⟩
  obtain ⟨ts, e, hts⟩ := bases35 (s := St none) (ns := ns) rfl rfl
  obtain ⟨y, _, L⟩ := loop_rel35 (St := St) (g := vgName 1) (b := lwOut) (fun _ => True) ts (fun o _ t ht => by
    obtain ⟨b, hb, rfl⟩ := hts t ht
    obtain ⟨y, q⟩ := lw_out_turn (ns := ns) (b := b) (by omega) (by omega) (o := o)
    exact ⟨_, some y, rfl, .inl q, trivial⟩) none trivial
  refine ⟨[], (sd_rt (f := b_law c0) (a := .val (.bl true)) (s1 := ⟨(St y).ρ, []⟩) ?_).trans rfl⟩
  refine st_seq (s1 := St y) ?_ (st_ret (end35 rfl))
  show vFor _ _ _ (St none) = _
  exact st_for e L

end Vw.Pk
end
section
namespace Vw
open PySem PySem.Spec PyProof.Rows L2 Own Vs
def ww (P : Program) (w : World) : WW := ⟨P, w, fun _ => none, []⟩
theorem pure_law (ns : List Int) (hl : ns.length ≤ 63) : ∃ m', f_law c0 [.val (.seq (ns.map T.int))] [] = some (.ok (.val (.bl true)), m') := Vw.Pk.pure_law ns hl
end Vw
end
open PySem PySem.W PyProof.Rows
set_option maxRecDepth 100000 in
set_option maxHeartbeats 0 in
theorem PySem.Challenge.cw_outermost_k35_stacks_in_an_order_holds : PySem.Challenge.rw_outermost_k35_stacks_in_an_order.Holds := by
  w_on; o_law
  refine Vs.headC (r := OpenLaw.row PySem.Challenge.rw_outermost_k35_stacks_in_an_order) (q := Vs.hq) (K := Vs.hk.heap_1) Vs.hAs_ok (M := 5331) (loose := Vs.hlo) (by kernel_rfl) (fun s => by kernel_rfl) (fun b => by cases b; exact Vs.hr1_false; exact Vs.hr1_true) (fun b => by cases b; exact Vs.hr2_false; exact Vs.hr2_true) (fun b => by cases b; exact Vs.hr3_false; exact Vs.hr3_true) (by rfl) (by rfl) (by rfl) (by rfl) (by first | assumption | decide +kernel) (by decide +kernel) ⟨rfl, rfl, rfl, rfl, rfl, by decide +kernel⟩ ?hw ?_
  case hw => w_witness2

  k_fill
  refine L2.walk_of (l := PySem.Challenge.rw_outermost_k35_stacks_in_an_order) (n := 63) (k := 10) (x := "_law_script") (CX := fun w => L2.CX (PySem.Challenge.rw_outermost_k35_stacks_in_an_order).prog w) (sp := fun w => @Vs.SpV (Vw.ww (PySem.Challenge.rw_outermost_k35_stacks_in_an_order).prog w) _ 1 (Vw.f_law Vw.c0)) rfl (by decide) rfl ⟨rfl, by decide, by decide⟩ (fun w h Y => PySem.W.kIn_of Y) ?F (fun w H a ns hl _ hS => @Vs.law_sp (Vw.ww (PySem.Challenge.rw_outermost_k35_stacks_in_an_order).prog w) _ _ _ Vw.pure_law H a ns hl hS rfl (by intro p h; cases h)) (fun w H s e s' h => (letI : Vs.WW := Vw.ww (PySem.Challenge.rw_outermost_k35_stacks_in_an_order).prog w; Vs.cx_end h))
  case F =>
    intro w mg fa h KX G hmg
    letI : Vs.WW := Vw.ww (PySem.Challenge.rw_outermost_k35_stacks_in_an_order).prog w
    refine' Exists.imp (fun fd z => And.intro z.1 fun base _ _ => z.2 base) (Vw.all_mk (P := (PySem.Challenge.rw_outermost_k35_stacks_in_an_order).prog) (w := w) KX G hmg ?a_WrapError ?a_InvalidRow ?a_InvalidStack ?a_InvalidText ?a_InvalidOrder ?a_NoRow ?a_Row ?a_Keep ?a_Tries ?a_Limit ?a_Leave ?a_Soft ?a_Count ?a_Lend ?a_Stack ?z_int ?z_abs ?z_len ?z_range ?z_list ?z_tuple ?z_str ?z_max ?z_min ?z_sorted ?z_enumerate ?z_zip ?z_isinstance ?z_bool ?z_any ?z_all ?z_sum ?cl_Row ?cl_Keep ?cl_Tries ?cl_Limit ?cl_Leave ?cl_Soft ?cl_Count ?cl_Lend ?cl_Stack ?oc_n ?oc_t ?ca_Row ?cm_Row ?ca_Keep ?cm_Keep ?ca_Tries ?cm_Tries ?ca_Limit ?cm_Limit ?ca_Leave ?cm_Leave ?ca_Soft ?cm_Soft ?ca_Count ?cm_Count ?ca_Lend ?cm_Lend ?ca_Stack ?cm_Stack ?no_what_Row ?no_what_Keep ?no_what_Tries ?no_what_Limit ?no_what_Leave ?no_what_Soft ?no_what_Count ?no_what_Lend ?no_what_Stack ?no_life_Row ?no_life_Keep ?no_life_Tries ?no_life_Limit ?no_life_Leave ?no_life_Soft ?no_life_Count ?no_life_Lend ?no_life_Stack ?no_on_Row ?no_on_Keep ?no_on_Tries ?no_on_Limit ?no_on_Leave ?no_on_Soft ?no_on_Count ?no_on_Lend ?no_on_Stack ?no_many_Row ?no_many_Keep ?no_many_Tries ?no_many_Limit ?no_many_Leave ?no_many_Soft ?no_many_Count ?no_many_Lend ?no_many_Stack ?no_rows_Row ?no_rows_Keep ?no_rows_Tries ?no_rows_Limit ?no_rows_Leave ?no_rows_Soft ?no_rows_Count ?no_rows_Lend ?no_rows_Stack ?st_Row_list ?st_Keep_list ?st_Tries_list ?st_Limit_list ?st_Leave_list ?st_Soft_list ?st_Count_list ?st_Lend_list ?st_Stack_list ?st_Row_tuple ?st_Keep_tuple ?st_Tries_tuple ?st_Limit_tuple ?st_Leave_tuple ?st_Soft_tuple ?st_Count_tuple ?st_Lend_tuple ?st_Stack_tuple ?ic_Row ?tc_Row ?sb_NoneType_Row ?sb_bool_Row ?sb_int_Row ?sb_str_Row ?sb_list_Row ?sb_tuple_Row ?ss_Row_Row ?ss_Keep_Row ?ss_Tries_Row ?ss_Limit_Row ?ss_Leave_Row ?ss_Soft_Row ?ss_Count_Row ?ss_Lend_Row ?ss_Stack_Row ?ne_Stack_Row ?st_Row_bool ?st_Keep_bool ?st_Tries_bool ?st_Limit_bool ?st_Leave_bool ?st_Soft_bool ?st_Count_bool ?st_Lend_bool ?st_Stack_bool ?st_Row_int ?st_Keep_int ?st_Tries_int ?st_Limit_int ?st_Leave_int ?st_Soft_int ?st_Count_int ?st_Lend_int ?st_Stack_int ?ic_Stack ?tc_Stack ?sb_NoneType_Stack ?sb_bool_Stack ?sb_int_Stack ?sb_str_Stack ?sb_list_Stack ?sb_tuple_Stack ?ss_Row_Stack ?ne_Row_Stack ?ss_Keep_Stack ?ne_Keep_Stack ?ss_Tries_Stack ?ne_Tries_Stack ?ss_Limit_Stack ?ne_Limit_Stack ?ss_Leave_Stack ?ne_Leave_Stack ?ss_Soft_Stack ?ne_Soft_Stack ?ss_Count_Stack ?ne_Count_Stack ?ss_Lend_Stack ?ne_Lend_Stack ?ss_Stack_Stack ?g_LIVES ?l_LIVES ?g_KEPT_ANSWERS ?l_KEPT_ANSWERS ?g_FAULTS ?l_FAULTS ?g_MOST_ASKED ?l_MOST_ASKED ?g_MOST_TRIES ?l_MOST_TRIES ?zk_InvalidOrder ?eb_InvalidOrder ?ei_InvalidOrder ?et_InvalidOrder ?es_WrapError_InvalidOrder ?es_InvalidRow_InvalidOrder ?es_InvalidStack_InvalidOrder ?es_InvalidText_InvalidOrder ?es_InvalidOrder_InvalidOrder ?es_NoRow_InvalidOrder ?ex_InvalidOrder ?eb_InvalidStack ?ei_InvalidStack ?et_InvalidStack ?es_InvalidOrder_InvalidStack ?en_InvalidOrder_InvalidStack ?eb_WrapError ?ei_WrapError ?et_WrapError ?es_InvalidOrder_WrapError ?en_InvalidOrder_WrapError ?mo_Lend ?mo_Count ?mo_Leave ?mk_Keep ?mk_Tries ?mk_Limit ?mk_Soft ?mk_Stack ?own_Row ?own_Keep ?own_Tries ?own_Limit ?own_Leave ?own_Soft ?own_Count ?own_Lend ?own_Stack ?nf_Stack_Stack ?a_fn__law_source ?F_source ?a_fn__law_draw ?F_draw ?a_fn__law_pick ?F_pick ?a_fn__law_row ?F_row ?a_fn__law_mixed ?F_mixed ?a_fn__law_rows ?F_rows ?a_fn__law_lot_rows ?F_lot_rows ?a_fn__law_orders ?F_orders ?mt_Keep_words ?F_Keep_words ?mt_Tries_words ?F_Tries_words ?mt_Limit_words ?F_Limit_words ?mt_Leave_words ?F_Leave_words ?mt_Soft_words ?F_Soft_words ?mt_Count_words ?F_Count_words ?mt_Lend_words ?F_Lend_words ?F_Row_str ?F_Stack_str ?a_fn_is_sequence ?F_is_sequence ?a_fn_rows_of ?F_rows_of ?a_fn_is_integer ?F_is_integer ?a_fn_is_order ?F_is_order ?a_fn_check_order ?F_check_order ?F_Stack_init ?l0_Stack_init ?a_fn_stack_of ?F_stack_of ?a_fn__law_heard ?F_heard ?a_fn_check_argument ?F_check_argument ?a_fn_is_one_of ?F_is_one_of ?F_Keep_init ?F_Tries_init ?F_Limit_init ?F_Soft_init ?a_fn_every_row ?F_every_row ?cr_Row_read ?cmt_Row_read ?F_Row_read ?a_fn__law_row_text ?F_row_text ?a_fn__law_made_rows ?F_made_rows ?a_fn_rows_in ?F_rows_in ?cr_Stack_read ?cmt_Stack_read ?F_Stack_read ?a_fn__law_text ?F_text ?F_Stack_eq ?a_fn_law ?F_law)
    (case a_WrapError => k_is)
    (case a_InvalidRow => k_is)
    (case a_InvalidStack => k_is)
    (case a_InvalidText => k_is)
    (case a_InvalidOrder => k_is)
    (case a_NoRow => k_is)
    (case a_Row => k_is)
    (case a_Keep => k_is)
    (case a_Tries => k_is)
    (case a_Limit => k_is)
    (case a_Leave => k_is)
    (case a_Soft => k_is)
    (case a_Count => k_is)
    (case a_Lend => k_is)
    (case a_Stack => k_is)
    (case z_int => k_is)
    (case z_abs => k_is)
    (case z_len => k_is)
    (case z_range => k_is)
    (case z_list => k_is)
    (case z_tuple => k_is)
    (case z_str => k_is)
    (case z_max => k_is)
    (case z_min => k_is)
    (case z_sorted => k_is)
    (case z_enumerate => k_is)
    (case z_zip => k_is)
    (case z_isinstance => k_is)
    (case z_bool => k_is)
    (case z_any => k_is)
    (case z_all => k_is)
    (case z_sum => k_is)
    (case cl_Row => (constructor <;> k_is))
    (case cl_Keep => (constructor <;> k_is))
    (case cl_Tries => (constructor <;> k_is))
    (case cl_Limit => (constructor <;> k_is))
    (case cl_Leave => (constructor <;> k_is))
    (case cl_Soft => (constructor <;> k_is))
    (case cl_Count => (constructor <;> k_is))
    (case cl_Lend => (constructor <;> k_is))
    (case cl_Stack => (constructor <;> k_is))
    (case oc_n => k_is)
    (case oc_t => k_is)
    (case ca_Row => k_is)
    (case cm_Row => k_is)
    (case ca_Keep => k_is)
    (case cm_Keep => k_is)
    (case ca_Tries => k_is)
    (case cm_Tries => k_is)
    (case ca_Limit => k_is)
    (case cm_Limit => k_is)
    (case ca_Leave => k_is)
    (case cm_Leave => k_is)
    (case ca_Soft => k_is)
    (case cm_Soft => k_is)
    (case ca_Count => k_is)
    (case cm_Count => k_is)
    (case ca_Lend => k_is)
    (case cm_Lend => k_is)
    (case ca_Stack => k_is)
    (case cm_Stack => k_is)
    (case no_what_Row => k_is)
    (case no_what_Keep => k_is)
    (case no_what_Tries => k_is)
    (case no_what_Limit => k_is)
    (case no_what_Leave => k_is)
    (case no_what_Soft => k_is)
    (case no_what_Count => k_is)
    (case no_what_Lend => k_is)
    (case no_what_Stack => k_is)
    (case no_life_Row => k_is)
    (case no_life_Keep => k_is)
    (case no_life_Tries => k_is)
    (case no_life_Limit => k_is)
    (case no_life_Leave => k_is)
    (case no_life_Soft => k_is)
    (case no_life_Count => k_is)
    (case no_life_Lend => k_is)
    (case no_life_Stack => k_is)
    (case no_on_Row => k_is)
    (case no_on_Keep => k_is)
    (case no_on_Tries => k_is)
    (case no_on_Limit => k_is)
    (case no_on_Leave => k_is)
    (case no_on_Soft => k_is)
    (case no_on_Count => k_is)
    (case no_on_Lend => k_is)
    (case no_on_Stack => k_is)
    (case no_many_Row => k_is)
    (case no_many_Keep => k_is)
    (case no_many_Tries => k_is)
    (case no_many_Limit => k_is)
    (case no_many_Leave => k_is)
    (case no_many_Soft => k_is)
    (case no_many_Count => k_is)
    (case no_many_Lend => k_is)
    (case no_many_Stack => k_is)
    (case no_rows_Row => k_is)
    (case no_rows_Keep => k_is)
    (case no_rows_Tries => k_is)
    (case no_rows_Limit => k_is)
    (case no_rows_Leave => k_is)
    (case no_rows_Soft => k_is)
    (case no_rows_Count => k_is)
    (case no_rows_Lend => k_is)
    (case no_rows_Stack => k_is)
    (case st_Row_list => k_is)
    (case st_Keep_list => k_is)
    (case st_Tries_list => k_is)
    (case st_Limit_list => k_is)
    (case st_Leave_list => k_is)
    (case st_Soft_list => k_is)
    (case st_Count_list => k_is)
    (case st_Lend_list => k_is)
    (case st_Stack_list => k_is)
    (case st_Row_tuple => k_is)
    (case st_Keep_tuple => k_is)
    (case st_Tries_tuple => k_is)
    (case st_Limit_tuple => k_is)
    (case st_Leave_tuple => k_is)
    (case st_Soft_tuple => k_is)
    (case st_Count_tuple => k_is)
    (case st_Lend_tuple => k_is)
    (case st_Stack_tuple => k_is)
    (case ic_Row => k_is)
    (case tc_Row => k_is)
    (case sb_NoneType_Row => k_is)
    (case sb_bool_Row => k_is)
    (case sb_int_Row => k_is)
    (case sb_str_Row => k_is)
    (case sb_list_Row => k_is)
    (case sb_tuple_Row => k_is)
    (case ss_Row_Row => first | rfl | k_is)
    (case ss_Keep_Row => k_is)
    (case ss_Tries_Row => k_is)
    (case ss_Limit_Row => k_is)
    (case ss_Leave_Row => k_is)
    (case ss_Soft_Row => k_is)
    (case ss_Count_Row => k_is)
    (case ss_Lend_Row => k_is)
    (case ss_Stack_Row => k_is)
    (case ne_Stack_Row => decide)
    (case st_Row_bool => k_is)
    (case st_Keep_bool => k_is)
    (case st_Tries_bool => k_is)
    (case st_Limit_bool => k_is)
    (case st_Leave_bool => k_is)
    (case st_Soft_bool => k_is)
    (case st_Count_bool => k_is)
    (case st_Lend_bool => k_is)
    (case st_Stack_bool => k_is)
    (case st_Row_int => k_is)
    (case st_Keep_int => k_is)
    (case st_Tries_int => k_is)
    (case st_Limit_int => k_is)
    (case st_Leave_int => k_is)
    (case st_Soft_int => k_is)
    (case st_Count_int => k_is)
    (case st_Lend_int => k_is)
    (case st_Stack_int => k_is)
    (case ic_Stack => k_is)
    (case tc_Stack => k_is)
    (case sb_NoneType_Stack => k_is)
    (case sb_bool_Stack => k_is)
    (case sb_int_Stack => k_is)
    (case sb_str_Stack => k_is)
    (case sb_list_Stack => k_is)
    (case sb_tuple_Stack => k_is)
    (case ss_Row_Stack => k_is)
    (case ne_Row_Stack => decide)
    (case ss_Keep_Stack => k_is)
    (case ne_Keep_Stack => decide)
    (case ss_Tries_Stack => k_is)
    (case ne_Tries_Stack => decide)
    (case ss_Limit_Stack => k_is)
    (case ne_Limit_Stack => decide)
    (case ss_Leave_Stack => k_is)
    (case ne_Leave_Stack => decide)
    (case ss_Soft_Stack => k_is)
    (case ne_Soft_Stack => decide)
    (case ss_Count_Stack => k_is)
    (case ne_Count_Stack => decide)
    (case ss_Lend_Stack => k_is)
    (case ne_Lend_Stack => decide)
    (case ss_Stack_Stack => first | rfl | k_is)
    (case g_LIVES => k_is)
    (case l_LIVES => k_is)
    (case g_KEPT_ANSWERS => k_is)
    (case l_KEPT_ANSWERS => k_is)
    (case g_FAULTS => k_is)
    (case l_FAULTS => k_is)
    (case g_MOST_ASKED => k_is)
    (case l_MOST_ASKED => k_is)
    (case g_MOST_TRIES => k_is)
    (case l_MOST_TRIES => k_is)
    (case zk_InvalidOrder => exact Vs.zok_mk (st := Vw.s_InvalidOrder_init) (by k_is) (by k_is) (by k_is) (by k_is) (by k_is) (by k_is) (by k_is) (by k_is) (by k_is) (by k_is) (by k_is) (by k_is) (by k_is) (by k_is) (by k_is) (by ks_is) (by k_is) (by kernel_rfl) (by rfl) (by exact ⟨_, _, _, _, _, _, _, _, rfl, by first | rfl | decide +kernel | kernel_rfl, rfl, rfl, by first | rfl | decide, by rfl, by rfl, by rfl, by rfl, by rfl, by rfl, by decide, fun _ => by rfl, fun _ => by rfl, fun _ => by rfl, fun _ => ⟨_, by rfl⟩⟩) (by first | rfl | kernel_rfl))
    (case eb_InvalidOrder => k_is)
    (case ei_InvalidOrder => k_is)
    (case et_InvalidOrder => k_is)
    (case es_WrapError_InvalidOrder => k_is)
    (case es_InvalidRow_InvalidOrder => k_is)
    (case es_InvalidStack_InvalidOrder => k_is)
    (case es_InvalidText_InvalidOrder => k_is)
    (case es_InvalidOrder_InvalidOrder => first | rfl | k_is)
    (case es_NoRow_InvalidOrder => k_is)
    (case ex_InvalidOrder => (constructor <;> k_is))
    (case eb_InvalidStack => k_is)
    (case ei_InvalidStack => k_is)
    (case et_InvalidStack => k_is)
    (case es_InvalidOrder_InvalidStack => k_is)
    (case en_InvalidOrder_InvalidStack => decide)
    (case eb_WrapError => k_is)
    (case ei_WrapError => k_is)
    (case et_WrapError => k_is)
    (case es_InvalidOrder_WrapError => k_is)
    (case en_InvalidOrder_WrapError => decide)
    (case mo_Lend => (constructor <;> k_is))
    (case mo_Count => (constructor <;> k_is))
    (case mo_Leave => (constructor <;> k_is))
    (case mk_Keep => (constructor <;> k_is))
    (case mk_Tries => (constructor <;> k_is))
    (case mk_Limit => (constructor <;> k_is))
    (case mk_Soft => (constructor <;> k_is))
    (case mk_Stack => (constructor <;> k_is))
    (case own_Row => (constructor; (constructor <;> k_is); all_goals k_is))
    (case own_Keep => (constructor; (constructor <;> k_is); all_goals k_is))
    (case own_Tries => (constructor; (constructor <;> k_is); all_goals k_is))
    (case own_Limit => (constructor; (constructor <;> k_is); all_goals k_is))
    (case own_Leave => (constructor; (constructor <;> k_is); all_goals k_is))
    (case own_Soft => (constructor; (constructor <;> k_is); all_goals k_is))
    (case own_Count => (constructor; (constructor <;> k_is); all_goals k_is))
    (case own_Lend => (constructor; (constructor <;> k_is); all_goals k_is))
    (case own_Stack => (constructor; (constructor <;> k_is); all_goals k_is))
    (case nf_Stack_Stack => k_is)
    (case a_fn__law_source => k_is)
    (case F_source => (first | exact L2.fun_mk (by k_is) (by k_is) (by k_is) | (refine' L2.fun_mk ?_ ?_ ?_ <;> try k_is)))
    (case a_fn__law_draw => k_is)
    (case F_draw => (first | exact L2.fun_mk (by k_is) (by k_is) (by k_is) | (refine' L2.fun_mk ?_ ?_ ?_ <;> try k_is)))
    (case a_fn__law_pick => k_is)
    (case F_pick => (first | exact L2.fun_mk (by k_is) (by k_is) (by k_is) | (refine' L2.fun_mk ?_ ?_ ?_ <;> try k_is)))
    (case a_fn__law_row => k_is)
    (case F_row => (first | exact L2.fun_mk (by k_is) (by k_is) (by k_is) | (refine' L2.fun_mk ?_ ?_ ?_ <;> try k_is)))
    (case a_fn__law_mixed => k_is)
    (case F_mixed => (first | exact L2.fun_mk (by k_is) (by k_is) (by k_is) | (refine' L2.fun_mk ?_ ?_ ?_ <;> try k_is)))
    (case a_fn__law_rows => k_is)
    (case F_rows => (first | exact L2.fun_mk (by k_is) (by k_is) (by k_is) | (refine' L2.fun_mk ?_ ?_ ?_ <;> try k_is)))
    (case a_fn__law_lot_rows => k_is)
    (case F_lot_rows => (first | exact L2.fun_mk (by k_is) (by k_is) (by k_is) | (refine' L2.fun_mk ?_ ?_ ?_ <;> try k_is)))
    (case a_fn__law_orders => k_is)
    (case F_orders => (first | exact L2.fun_mk (by k_is) (by k_is) (by k_is) | (refine' L2.fun_mk ?_ ?_ ?_ <;> try k_is)))
    (case mt_Keep_words => (constructor <;> k_is))
    (case F_Keep_words => (first | exact L2.fun_mk (by k_is) (by k_is) (by k_is) | (refine' L2.fun_mk ?_ ?_ ?_ <;> try k_is)))
    (case mt_Tries_words => (constructor <;> k_is))
    (case F_Tries_words => (first | exact L2.fun_mk (by k_is) (by k_is) (by k_is) | (refine' L2.fun_mk ?_ ?_ ?_ <;> try k_is)))
    (case mt_Limit_words => (constructor <;> k_is))
    (case F_Limit_words => (first | exact L2.fun_mk (by k_is) (by k_is) (by k_is) | (refine' L2.fun_mk ?_ ?_ ?_ <;> try k_is)))
    (case mt_Leave_words => (constructor <;> k_is))
    (case F_Leave_words => (first | exact L2.fun_mk (by k_is) (by k_is) (by k_is) | (refine' L2.fun_mk ?_ ?_ ?_ <;> try k_is)))
    (case mt_Soft_words => (constructor <;> k_is))
    (case F_Soft_words => (first | exact L2.fun_mk (by k_is) (by k_is) (by k_is) | (refine' L2.fun_mk ?_ ?_ ?_ <;> try k_is)))
    (case mt_Count_words => (constructor <;> k_is))
    (case F_Count_words => (first | exact L2.fun_mk (by k_is) (by k_is) (by k_is) | (refine' L2.fun_mk ?_ ?_ ?_ <;> try k_is)))
    (case mt_Lend_words => (constructor <;> k_is))
    (case F_Lend_words => (first | exact L2.fun_mk (by k_is) (by k_is) (by k_is) | (refine' L2.fun_mk ?_ ?_ ?_ <;> try k_is)))
    (case F_Row_str => (first | exact L2.fun_mk (by k_is) (by k_is) (by k_is) | (refine' L2.fun_mk ?_ ?_ ?_ <;> try k_is)))
    (case F_Stack_str => (first | exact L2.fun_mk (by k_is) (by k_is) (by k_is) | (refine' L2.fun_mk ?_ ?_ ?_ <;> try k_is)))
    (case a_fn_is_sequence => k_is)
    (case F_is_sequence => (first | exact L2.fun_mk (by k_is) (by k_is) (by k_is) | (refine' L2.fun_mk ?_ ?_ ?_ <;> try k_is)))
    (case a_fn_rows_of => k_is)
    (case F_rows_of => (first | exact L2.fun_mk (by k_is) (by k_is) (by k_is) | (refine' L2.fun_mk ?_ ?_ ?_ <;> try k_is)))
    (case a_fn_is_integer => k_is)
    (case F_is_integer => (first | exact L2.fun_mk (by k_is) (by k_is) (by k_is) | (refine' L2.fun_mk ?_ ?_ ?_ <;> try k_is)))
    (case a_fn_is_order => k_is)
    (case F_is_order => (first | exact L2.fun_mk (by k_is) (by k_is) (by k_is) | (refine' L2.fun_mk ?_ ?_ ?_ <;> try k_is)))
    (case a_fn_check_order => k_is)
    (case F_check_order => (first | exact L2.fun_mk (by k_is) (by k_is) (by k_is) | (refine' L2.fun_mk ?_ ?_ ?_ <;> try k_is)))
    (case F_Stack_init => (first | exact Vs.fund_mk (by k_is) (by k_is) (by k_is) (by exact (.cons rfl .nil)) (List.cons_ne_nil _ _) (by k_is) | (refine' Vs.fund_mk ?_ ?_ ?_ ?_ (List.cons_ne_nil _ _) ?_ <;> first | k_is | exact (.cons rfl .nil) | skip)))
    (case l0_Stack_init => k_is)
    (case a_fn_stack_of => k_is)
    (case F_stack_of => (first | exact L2.fun_mk (by k_is) (by k_is) (by k_is) | (refine' L2.fun_mk ?_ ?_ ?_ <;> try k_is)))
    (case a_fn__law_heard => k_is)
    (case F_heard => (first | exact L2.fun_mk (by k_is) (by k_is) (by k_is) | (refine' L2.fun_mk ?_ ?_ ?_ <;> try k_is)))
    (case a_fn_check_argument => k_is)
    (case F_check_argument => (first | exact L2.fun_mk (by k_is) (by k_is) (by k_is) | (refine' L2.fun_mk ?_ ?_ ?_ <;> try k_is)))
    (case a_fn_is_one_of => k_is)
    (case F_is_one_of => (first | exact L2.fun_mk (by k_is) (by k_is) (by k_is) | (refine' L2.fun_mk ?_ ?_ ?_ <;> try k_is)))
    (case F_Keep_init => (first | exact Vs.fund_mk (by k_is) (by k_is) (by k_is) (by exact (.cons ⟨_, rfl⟩ (.cons rfl .nil))) (List.cons_ne_nil _ _) (by k_is) | (refine' Vs.fund_mk ?_ ?_ ?_ ?_ (List.cons_ne_nil _ _) ?_ <;> first | k_is | exact (.cons ⟨_, rfl⟩ (.cons rfl .nil)) | skip)))
    (case F_Tries_init => (first | exact Vs.fund_mk (by k_is) (by k_is) (by k_is) (by exact (.cons ⟨_, rfl⟩ .nil)) (List.cons_ne_nil _ _) (by k_is) | (refine' Vs.fund_mk ?_ ?_ ?_ ?_ (List.cons_ne_nil _ _) ?_ <;> first | k_is | exact (.cons ⟨_, rfl⟩ .nil) | skip)))
    (case F_Limit_init => (first | exact L2.fun_mk (by k_is) (by k_is) (by k_is) | (refine' L2.fun_mk ?_ ?_ ?_ <;> try k_is)))
    (case F_Soft_init => (first | exact Vs.fund_mk (by k_is) (by k_is) (by k_is) (by exact (.cons ⟨_, rfl⟩ .nil)) (List.cons_ne_nil _ _) (by k_is) | (refine' Vs.fund_mk ?_ ?_ ?_ ?_ (List.cons_ne_nil _ _) ?_ <;> first | k_is | exact (.cons ⟨_, rfl⟩ .nil) | skip)))
    (case a_fn_every_row => k_is)
    (case F_every_row => (first | exact L2.fun_mk (by k_is) (by k_is) (by k_is) | (refine' L2.fun_mk ?_ ?_ ?_ <;> try k_is)))
    (case cr_Row_read => (constructor <;> k_is))
    (case cmt_Row_read => (first | exact Vs.cmet_mk (by k_is) (by k_is) (by k_is) | (refine' Vs.cmet_mk ?_ ?_ ?_ <;> try k_is)))
    (case F_Row_read => (first | exact L2.fun_mk (by k_is) (by k_is) (by k_is) | (refine' L2.fun_mk ?_ ?_ ?_ <;> try k_is)))
    (case a_fn__law_row_text => k_is)
    (case F_row_text => (first | exact L2.fun_mk (by k_is) (by k_is) (by k_is) | (refine' L2.fun_mk ?_ ?_ ?_ <;> try k_is)))
    (case a_fn__law_made_rows => k_is)
    (case F_made_rows => (first | exact L2.fun_mk (by k_is) (by k_is) (by k_is) | (refine' L2.fun_mk ?_ ?_ ?_ <;> try k_is)))
    (case a_fn_rows_in => k_is)
    (case F_rows_in => (first | exact L2.fun_mk (by k_is) (by k_is) (by k_is) | (refine' L2.fun_mk ?_ ?_ ?_ <;> try k_is)))
    (case cr_Stack_read => (constructor <;> k_is))
    (case cmt_Stack_read => (first | exact Vs.cmet_mk (by k_is) (by k_is) (by k_is) | (refine' Vs.cmet_mk ?_ ?_ ?_ <;> try k_is)))
    (case F_Stack_read => (first | exact L2.fun_mk (by k_is) (by k_is) (by k_is) | (refine' L2.fun_mk ?_ ?_ ?_ <;> try k_is)))
    (case a_fn__law_text => k_is)
    (case F_text => (first | exact L2.fun_mk (by k_is) (by k_is) (by k_is) | (refine' L2.fun_mk ?_ ?_ ?_ <;> try k_is)))
    (case F_Stack_eq => (first | exact L2.fun_mk (by k_is) (by k_is) (by k_is) | (refine' L2.fun_mk ?_ ?_ ?_ <;> try k_is)))
    (case a_fn_law => k_is)
    (case F_law => (first | exact L2.fun_mk (by k_is) (by k_is) (by k_is) | (refine' L2.fun_mk ?_ ?_ ?_ <;> try k_is)))
